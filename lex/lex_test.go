package lex_test

import (
	"fmt"
	"math"
	"slices"
	"strings"
	"testing"

	"signalman/api"
	"signalman/lex"
)

func tok(kind int, text string) lex.Token { return lex.Token{Kind: kind, Text: text} }

func word(text string) lex.Token   { return tok(lex.Word, text) }
func name(text string) lex.Token   { return tok(lex.Name, text) }
func str(text string) lex.Token    { return tok(lex.String, text) }
func number(text string) lex.Token { return tok(lex.Number, text) }
func hint(text string) lex.Token   { return tok(lex.Hint, text) }
func sign(text string) lex.Token   { return tok(lex.Sign, text) }

func tokens(l ...lex.Token) []lex.Token { return l }

// told are tokens in a few words, however many they are.
func told(l ...lex.Token) string {
	s := fmt.Sprint(l)
	return s[:min(200, len(s))]
}

func checkLex(t *testing.T, s string, want []lex.Token) {
	t.Helper()
	if l, e := lex.Lex(s); !slices.Equal(l, want) || e != api.OK {
		t.Errorf("Lex(%.60q): %s, %d, not %s", s, told(l...), e, told(want...))
	}
}

// checkLexWrong: a text has no tokens; beside the error there is none (R2).
func checkLexWrong(t *testing.T, s string, want api.Errno) {
	t.Helper()
	if l, e := lex.Lex(s); l != nil || e != want {
		t.Errorf("Lex(%.60q): %s, %d, not %d", s, told(l...), e, want)
	}
}

// row is a text, and its tokens.
type row struct {
	s    string
	want []lex.Token
}

func checkRows(t *testing.T, rows []row) {
	t.Helper()
	for _, r := range rows {
		checkLex(t, r.s, r.want)
	}
}

func isLetter(c byte) bool {
	return strings.IndexByte("ABCDEFGHIJKLMNOPQRSTUVWXYZabcdefghijklmnopqrstuvwxyz_", c) >= 0
}

func isDigit(c byte) bool { return strings.IndexByte("0123456789", c) >= 0 }

func isBlank(c byte) bool { return c == 32 || c == 9 || c == 10 || c == 13 }

func isQuote(c byte) bool { return c == 34 || c == 39 || c == 96 }

// ofByte is the token that a byte alone is, if it is one.
func ofByte(c byte) (lex.Token, bool) {
	switch {
	case isLetter(c):
		return word(strings.ToUpper(string(rune(c)))), true
	case isDigit(c):
		return number(string(rune(c))), true
	case c < 33 || c > 126 || isQuote(c) || c == '#':
		return lex.Token{}, false
	}
	return sign(string(rune(c))), true
}

// P4.1: the Kinds, by their numbers.
func TestKinds(t *testing.T) {
	for i, kind := range []int{lex.Word, lex.Name, lex.String, lex.Number, lex.Hint, lex.Sign} {
		if kind != i+1 {
			t.Errorf("Kind %d is told as %d", i+1, kind)
		}
	}
}

// P4.1: ordinary texts, with tokens of each Kind.
func TestLex(t *testing.T) {
	checkRows(t, []row{
		{"select 'a''b'--x", tokens(word("SELECT"), str("a'b"))},
		{"SELECT * FROM t_1 WHERE a=10;", tokens(word("SELECT"), sign("*"), word("FROM"), word("T_1"), word("WHERE"), word("A"), sign("="), number("10"), sign(";"))},
		{"/*+ primary */ select \"a b\", `c`", tokens(hint("primary"), word("SELECT"), name("a b"), sign(","), name("c"))},
		{"insert into t (a) values ('é', -1.5)", tokens(word("INSERT"), word("INTO"), word("T"), sign("("), word("A"), sign(")"), word("VALUES"), sign("("), str("é"), sign(","), sign("-"), number("1"), sign("."), number("5"), sign(")"))},
		{"begin # now\n;commit", tokens(word("BEGIN"), sign(";"), word("COMMIT"))},
		{"a\tb\r\nc d", tokens(word("A"), word("B"), word("C"), word("D"))},
		{"_ __ _a A_", tokens(word("_"), word("__"), word("_A"), word("A_"))},
		{"a<=b||c", tokens(word("A"), sign("<"), sign("="), word("B"), sign("|"), sign("|"), word("C"))},
	})
}

// P4.1: no text, and blanks alone.
func TestLexNothing(t *testing.T) {
	for _, s := range []string{"", " ", "\t", "\n", "\r", " \t\r\n", strings.Repeat(" ", api.MostText), "--", "#", "/**/", "\n\n#\n"} {
		checkLex(t, s, nil)
	}
}

// P4.1: digits and letters side by side.
func TestLexDigitsAndLetters(t *testing.T) {
	checkRows(t, []row{
		{"12ab", tokens(number("12"), word("AB"))},
		{"ab12", tokens(word("AB12"))},
		{"1a2b", tokens(number("1"), word("A2B"))},
		{"1_2", tokens(number("1"), word("_2"))},
		{"_2", tokens(word("_2"))},
		{"0x0F", tokens(number("0"), word("X0F"))},
		{"1e5", tokens(number("1"), word("E5"))},
		{"007", tokens(number("007"))},
		{"1 2", tokens(number("1"), number("2"))},
		{"1.2", tokens(number("1"), sign("."), number("2"))},
		{"azAZ09_z", tokens(word("AZAZ09_Z"))},
		{"0123456789abcdefghijklmnopqrstuvwxyz", tokens(number("0123456789"), word("ABCDEFGHIJKLMNOPQRSTUVWXYZ"))},
		{"a'b'c\"d\"1`e`2", tokens(word("A"), str("b"), word("C"), name("d"), number("1"), name("e"), number("2"))},
	})
}

// P4.1: quotes that stand twice, and at the ends.
func TestLexQuotes(t *testing.T) {
	for _, q := range []struct {
		mark  string
		other string
		of    func(string) lex.Token
	}{{"'", "\"", str}, {"\"", "`", name}, {"`", "'", name}} {
		m, o := q.mark, q.other
		checkRows(t, []row{
			{m + m, tokens(q.of(""))},
			{m + m + m + m, tokens(q.of(m))},
			{m + m + m + m + m + m, tokens(q.of(m + m))},
			{m + "a" + m, tokens(q.of("a"))},
			{m + "a" + m + m + "b" + m, tokens(q.of("a" + m + "b"))},
			{m + m + m + "a" + m, tokens(q.of(m + "a"))},
			{m + "a" + m + m + m, tokens(q.of("a" + m))},
			{m + m + " " + m + m, tokens(q.of(""), q.of(""))},
			{m + "a" + m + " " + m + "b" + m, tokens(q.of("a"), q.of("b"))},
			{m + "a" + m + "b" + m + "c" + m, tokens(q.of("a"), word("B"), q.of("c"))},
			{m + o + m, tokens(q.of(o))},
			{m + o + o + m, tokens(q.of(o + o))},
			{m + " A\ta " + m, tokens(q.of(" A\ta "))},
			{m + "\\" + m, tokens(q.of("\\"))},
			{m + "--#/*/*+*/" + m, tokens(q.of("--#/*/*+*/"))},
			{m + m + "--" + m, tokens(q.of(""))},
		})
		for _, s := range []string{m, m + m + m, m + m + m + m + m, m + "a", m + "a" + m + m, m + o, "a" + m, m + m + " " + m, m + "a\n", m + "--", m + "/*" + m + " */" + m} {
			checkLexWrong(t, s, api.ErrForm)
		}
	}
	for _, s := range []string{"'a\"", "\"a'", "\"a`", "`a\"", "`a'", "'a`"} {
		checkLexWrong(t, s, api.ErrForm)
	}
}

// P4.1: Hints, and remarks that end.
func TestLexHintsAndRemarks(t *testing.T) {
	a, b := word("A"), word("B")
	checkRows(t, []row{
		{"/**/", nil},
		{"/***/", nil},
		{"/*/*/", nil},
		{"/*a*/b", tokens(b)},
		{"a/**/b", tokens(a, b)},
		{"a/*+*/b", tokens(a, hint(""), b)},
		{"/*+a*/", tokens(hint("a"))},
		{"/*++*/", tokens(hint("+"))},
		{"/*+**/", tokens(hint("*"))},
		{"/*+/*/", tokens(hint("/"))},
		{"/*+/**/", tokens(hint("/*"))},
		{"/* + */", nil},
		{"/*-+*/", nil},
		{"/ *+ */", tokens(sign("/"), sign("*"), sign("+"), sign("*"), sign("/"))},
		{"/*+ */", tokens(hint(""))},
		{"/*+ \t\r\n */", tokens(hint(""))},
		{"/*+ a b */", tokens(hint("a b"))},
		{"/*+\r\n\ta\t \nb\n*/", tokens(hint("a\t \nb"))},
		{"/*+ a/*+b */", tokens(hint("a/*+b"))},
		{"/*+ 'a */", tokens(hint("'a"))},
		{"/*+ -- */a", tokens(hint("--"), a)},
		{"/*+ # */a", tokens(hint("#"), a)},
		{"/*+a*/*/", tokens(hint("a"), sign("*"), sign("/"))},
		{"/*+a*//*+b*/", tokens(hint("a"), hint("b"))},
		{"/*'*/a", tokens(a)},
		{"/*--*/a", tokens(a)},
		{"/*#*/a", tokens(a)},
		{"/*\n*/a", tokens(a)},
		{"/*/**/a", tokens(a)},
		{"/* /*+ */a", tokens(a)},
		{"/*a*/*/", tokens(sign("*"), sign("/"))},
		{"/**//**/", nil},
	})
	for _, s := range []string{"/*", "/*/", "/**", "/* *", "/* /", "/* * /", "/*+", "/*+/", "/*+*", "/*+ a", "/*+ a* /", "a/*", "/**//*", "/*a*//*+", "/*\n", "/*--\n", "'a'/*+"} {
		checkLexWrong(t, s, api.ErrForm)
	}
}

// P4.1: remarks that end ahead of a byte 10, or with all.
func TestLexLines(t *testing.T) {
	a, b := word("A"), word("B")
	checkRows(t, []row{
		{"a--", tokens(a)},
		{"a--b", tokens(a)},
		{"a--b\nb", tokens(a, b)},
		{"a--\nb", tokens(a, b)},
		{"a#\nb", tokens(a, b)},
		{"a#b\nb", tokens(a, b)},
		{"a#b\rb", tokens(a)},
		{"a--b\r\nb", tokens(a, b)},
		{"#a\n#b\nb", tokens(b)},
		{"--a\n--b\n", nil},
		{"--a\n\nb", tokens(b)},
		{"---a\nb", tokens(b)},
		{"-#a\n-b", tokens(sign("-"), sign("-"), b)},
		{"-/**/-a", tokens(sign("-"), sign("-"), a)},
		{"- -a", tokens(sign("-"), sign("-"), a)},
		{"-\n-a", tokens(sign("-"), sign("-"), a)},
		{"a-b", tokens(a, sign("-"), b)},
		{"a-", tokens(a, sign("-"))},
		{"a- --b", tokens(a, sign("-"))},
		{"-->a\nb", tokens(b)},
		{"--/*\nb", tokens(b)},
		{"--/*\n*/", tokens(sign("*"), sign("/"))},
		{"#/*+\nb", tokens(b)},
		{"#'\nb", tokens(b)},
		{"--'", nil},
		{"#--\nb", tokens(b)},
		{"--#\nb", tokens(b)},
		{"/--\n*a", tokens(sign("/"), sign("*"), a)},
		{"/#\n*a", tokens(sign("/"), sign("*"), a)},
		{"/", tokens(sign("/"))},
		{"*/", tokens(sign("*"), sign("/"))},
		{"/-*", tokens(sign("/"), sign("-"), sign("*"))},
		{"//*a*/", tokens(sign("/"))},
		{"-/*a*/", tokens(sign("-"))},
		{"*/*a*/", tokens(sign("*"))},
		{"+/*+a*/", tokens(sign("+"), hint("a"))},
	})
}

// P4.1: texts of MostText bytes, and of more: ErrLong comes ahead of ErrForm.
func TestLexHowLong(t *testing.T) {
	most := api.MostText
	for _, c := range []row{
		{strings.Repeat("x", most), tokens(word(strings.Repeat("X", most)))},
		{strings.Repeat("7", most), tokens(number(strings.Repeat("7", most)))},
		{strings.Repeat("'", most), tokens(str(strings.Repeat("'", most/2-1)))},
		{"`" + strings.Repeat("\xff", most-2) + "`", tokens(name(strings.Repeat("\xff", most-2)))},
		{"/*+" + strings.Repeat("h", most-5) + "*/", tokens(hint(strings.Repeat("h", most-5)))},
		{"/*" + strings.Repeat("h", most-4) + "*/", nil},
		{"--" + strings.Repeat("h", most-2), nil},
		{strings.Repeat("+", most), slices.Repeat(tokens(sign("+")), most)},
	} {
		checkLex(t, c.s, c.want)
		checkLexWrong(t, c.s+" ", api.ErrLong)
		checkLexWrong(t, " "+c.s, api.ErrLong)
	}
	for _, c := range []string{"x", "'", "\"", "`", "\x00", "\xff", " ", "\n", "#", "/*", "/*+", "é"} {
		for _, n := range []int{most + 1, most + 2, 2 * most, 256, 65536 + 1} {
			checkLexWrong(t, strings.Repeat(c, n)[:n], api.ErrLong)
		}
	}
	checkLexWrong(t, strings.Repeat("\x00", most), api.ErrForm)
	checkLexWrong(t, strings.Repeat("'", most-1), api.ErrForm)
}

// P4.1: each byte alone, and between two tokens.
func TestLexEachByte(t *testing.T) {
	for i := range 256 {
		c := byte(i)
		s := string([]byte{c})
		of, is := ofByte(c)
		switch {
		case is:
			checkLex(t, s, tokens(of))
			checkLex(t, "' '"+s+"' '", tokens(str(" "), of, str(" ")))
		case isBlank(c):
			checkLex(t, s, nil)
			checkLex(t, "a"+s+"b", tokens(word("A"), word("B")))
		case c == '#':
			checkLex(t, s, nil)
			checkLex(t, "a"+s+"b", tokens(word("A")))
		default:
			checkLexWrong(t, s, api.ErrForm)
			checkLexWrong(t, "a "+s+" b", api.ErrForm)
			checkLexWrong(t, "a"+s, api.ErrForm)
		}
	}
}

// P4.1: each byte inside of a Name, a String, a Hint and a remark.
func TestLexEachByteInside(t *testing.T) {
	x := word("X")
	for i := range 256 {
		c := byte(i)
		s := "a" + string([]byte{c}) + "b"
		for _, q := range []struct {
			mark byte
			of   func(string) lex.Token
		}{{'"', name}, {'`', name}, {'\'', str}} {
			mark := string(rune(q.mark))
			if c != q.mark {
				checkLex(t, mark+s+mark+"x", tokens(q.of(s), x))
			} else {
				checkLex(t, mark+"a"+mark+mark+"b"+mark+"x", tokens(q.of(s), x))
			}
		}
		checkLex(t, "/*+"+s+"*/x", tokens(hint(s), x))
		checkLex(t, "/*"+s+"*/x", tokens(x))
		if c != '\n' {
			checkLex(t, "--"+s+"\nx", tokens(x))
			checkLex(t, "#"+s+"\nx", tokens(x))
			checkLex(t, "#"+s, nil)
		}
	}
}

// P4.1: each byte at the ends of a Hint: blanks alone are taken away.
func TestLexEndsOfHints(t *testing.T) {
	for i := range 256 {
		c := string([]byte{byte(i)})
		want := c + "h" + c
		if isBlank(byte(i)) {
			want = "h"
		}
		checkLex(t, "/*+"+c+"h"+c+"*/", tokens(hint(want)))
		checkLex(t, "/*+ "+c+"h"+c+"\n*/", tokens(hint(want)))
	}
}

// P4.1: bytes that are no UTF-8, and letters of other tongues, are of no token but inside.
func TestLexOtherBytes(t *testing.T) {
	for _, s := range []string{"é", "\xff", "\xc3", "\xa9", "\xc3\x28", "\xed\xa0\x80", "\u212a", "\u0130", "\u017f", "\u00a0", "\u2003", "\ufeff", "\x7f", "\x80", "\x00", "\v", "\f", "\b"} {
		for _, text := range []string{s, "a" + s, s + "a", "1" + s, "a " + s, "'" + s + "'" + s, "--\n" + s, "/**/" + s, "/*+*/" + s} {
			checkLexWrong(t, text, api.ErrForm)
		}
		checkLex(t, "'"+s+"'", tokens(str(s)))
		checkLex(t, "\""+s+"\"", tokens(name(s)))
		checkLex(t, "`"+s+"`", tokens(name(s)))
		checkLex(t, "/*+"+s+"*/", tokens(hint(s)))
		checkLex(t, "/*"+s+"*/", nil)
		checkLex(t, "--"+s, nil)
		checkLex(t, "#"+s, nil)
	}
}

// goodTokens are tokens of each Kind that may be.
func goodTokens() []lex.Token {
	l := tokens(word("A"), word("Z"), word("_"), word("_0"), word("SELECT"), word("A_1"), word("A09Z_"), word("__"),
		number("0"), number("9"), number("007"), number("1234567890"),
		hint(""), hint("a"), hint("a b"), hint("*"), hint("/"), hint("+"), hint("/*"), hint("/*+"), hint("**"), hint("* /"), hint("a \t\n\r b"), hint("\x00"), hint("\xff"), hint("'"), hint("é"), hint("\v"), hint("--"), hint("#"), hint("h*"), hint("/h"))
	for _, text := range []string{"", "a", "A", " ", " a ", "'", "''", "\"", "`", "\"\"", "``", "a'b", "a\"b", "a`b", "\x00", "\n", "\xff\xfe", "é", "--", "#", "/*", "/*+", "*/", "\\", "'\"`'\"`"} {
		l = append(l, name(text), str(text))
	}
	for c := byte(33); c <= 126; c++ {
		if of, is := ofByte(c); is && of.Kind == lex.Sign {
			l = append(l, of)
		}
	}
	return l
}

// P4.2: tokens of each Kind that may be.
func TestRight(t *testing.T) {
	for _, x := range goodTokens() {
		if !lex.Right(x) {
			t.Errorf("%s may not be", told(x))
		}
	}
}

// P4.2: tokens that may not be, of each Kind, and of Kinds that there are not.
func TestRightWrong(t *testing.T) {
	l := tokens(
		word(""), word("a"), word("Aa"), word("aA"), word("1"), word("1A"), word("A B"), word(" A"), word("A "), word("A-"), word("-"), word("É"), word("A\xff"), word("\u212a"), word("'A'"), word("A\x00"), word("Az"), word("A\n"),
		number(""), number("a"), number("1A"), number("A1"), number("1 "), number(" 1"), number("-1"), number("1.5"), number("1_0"), number("٣"), number("1\x00"), number("/"), number(":"),
		hint(" "), hint(" a"), hint("a "), hint("\ta"), hint("a\t"), hint("\na"), hint("a\n"), hint("\ra"), hint("a\r"), hint("*/"), hint("a*/"), hint("*/a"), hint("a*/b"), hint("/*a*/"), hint("**/"),
		sign(""), sign("--"), sign("++"), sign("/*"), sign("*/"), sign("<="), sign("é"), sign("\xff"), sign("- "),
	)
	for _, x := range l {
		if lex.Right(x) {
			t.Errorf("%s may be", told(x))
		}
	}
	for _, kind := range []int{0, 7, 8, -1, -6, 255, 256, 257, 262, 1 << 32, 1<<32 + 1, 1<<32 + 6, math.MaxInt, math.MinInt, math.MinInt + 2} {
		for _, text := range []string{"", "A", "1", "-", "a"} {
			if lex.Right(tok(kind, text)) {
				t.Errorf("Kind %d, %q may be", kind, text)
			}
		}
	}
}

// P4.2: a byte may be a token of a Kind, if it is one of it alone; Names and Strings may have any, Hints all but blanks.
func TestRightEachByte(t *testing.T) {
	for i := range 256 {
		c := byte(i)
		s := string([]byte{c})
		of, is := ofByte(c)
		for _, kind := range []int{lex.Word, lex.Number, lex.Sign} {
			want := is && of == tok(kind, s)
			if lex.Right(tok(kind, s)) != want {
				t.Errorf("Kind %d, %q: Right is not %v", kind, s, want)
			}
		}
		if !lex.Right(name(s)) || !lex.Right(str(s)) {
			t.Errorf("no Name or String of %q may be", s)
		}
		if lex.Right(hint(s)) == isBlank(c) {
			t.Errorf("Hint of %q: Right is %v", s, !isBlank(c))
		}
		great := isLetter(c) && (c < 'a' || c > 'z')
		if lex.Right(word("A"+s+"B")) != (great || isDigit(c)) {
			t.Errorf("Word of A%qB: Right is wrong", s)
		}
		if lex.Right(number("1"+s+"2")) != isDigit(c) {
			t.Errorf("Number of 1%q2: Right is wrong", s)
		}
		if lex.Right(sign("+"+s)) || lex.Right(sign(s+"+")) {
			t.Errorf("a Sign of two bytes, + and %q, may be", s)
		}
	}
}

// P4.2: what is told by Lex may be.
func TestLexTellsWhatMayBe(t *testing.T) {
	for _, s := range shortTexts() {
		l, _ := lex.Lex(s)
		for _, x := range l {
			if !lex.Right(x) {
				t.Errorf("Lex(%q): %s may not be", s, told(x))
			}
		}
	}
}

// P4.2: what is written of tokens.
func TestWrite(t *testing.T) {
	for _, c := range []struct {
		l    []lex.Token
		want string
	}{
		{nil, ""},
		{[]lex.Token{}, ""},
		{tokens(word("SELECT")), "SELECT"},
		{tokens(number("007")), "007"},
		{tokens(sign("-")), "-"},
		{tokens(sign("-"), sign("-")), "- -"},
		{tokens(sign("/"), sign("*"), sign("+")), "/ * +"},
		{tokens(name("")), `""`},
		{tokens(name("a")), `"a"`},
		{tokens(name(`a"b`)), `"a""b"`},
		{tokens(name(`"`)), `""""`},
		{tokens(name("`'")), "\"`'\""},
		{tokens(str("")), "''"},
		{tokens(str("a'b")), "'a''b'"},
		{tokens(str("''")), "''''''"},
		{tokens(str("\"`")), "'\"`'"},
		{tokens(str("\xff\n")), "'\xff\n'"},
		{tokens(hint("")), "/*+  */"},
		{tokens(hint("a  b")), "/*+ a  b */"},
		{tokens(hint("*")), "/*+ * */"},
		{tokens(word("A"), name("B"), str("C"), number("1"), hint("D"), sign(";")), "A \"B\" 'C' 1 /*+ D */ ;"},
		{tokens(number("1"), number("2"), word("A"), word("B")), "1 2 A B"},
		{tokens(str(""), str(""), name(""), name("")), `'' '' "" ""`},
	} {
		if s := lex.Write(c.l); s != c.want {
			t.Errorf("Write(%s): %q, not %q", told(c.l...), s, c.want)
		}
	}
}

// P4.2, R1: Kinds that there are not, and tokens that may not be, are written somehow, alike each time, and change nothing beside them.
func TestWriteWrong(t *testing.T) {
	for _, kind := range []int{0, 7, -1, 255, 257, math.MaxInt, math.MinInt} {
		x := tok(kind, "x")
		if s := lex.Write(tokens(word("A"), x, word("B"))); s != "A  B" {
			t.Errorf("Kind %d: %q", kind, s)
		}
		if s := lex.Write(tokens(x)); s != "" {
			t.Errorf("Kind %d: %q", kind, s)
		}
	}
	for _, x := range tokens(word(""), word("a b"), number("x"), hint("*/"), sign(""), sign("--")) {
		l := tokens(x, x)
		if s := lex.Write(l); s != lex.Write(l) {
			t.Errorf("%s is written in two ways", told(x))
		}
	}
}

// checkBack: tokens come back from what is written of them.
func checkBack(t *testing.T, l []lex.Token) {
	t.Helper()
	if s := lex.Write(l); len(s) <= api.MostText {
		checkLex(t, s, l)
	} else {
		checkLexWrong(t, s, api.ErrLong)
	}
}

// P4.3: tokens that may be come back, alone, two by two, and three by three.
func TestTokensComeBack(t *testing.T) {
	all := goodTokens()
	for _, a := range all {
		checkBack(t, tokens(a))
		for _, b := range all {
			checkBack(t, tokens(a, b))
			checkBack(t, tokens(a, b, a))
		}
	}
	for i := range all {
		for n := range 40 {
			if i+n <= len(all) {
				checkBack(t, all[i:i+n])
			}
		}
	}
}

// P4.2, P4.3: of all short texts of a Kind just those may be that come back.
func TestWhatComesBackMayBe(t *testing.T) {
	for _, text := range allTexts("Aa1_-/*+#'\"` \n\x00\xff", 3) {
		for kind := lex.Word; kind <= lex.Sign; kind++ {
			x := tok(kind, text)
			l, e := lex.Lex(lex.Write(tokens(x)))
			back := e == api.OK && slices.Equal(l, tokens(x))
			if lex.Right(x) != back {
				t.Errorf("%s: Right is %v, but it comes back: %v", told(x), !back, back)
			}
		}
	}
}

// allTexts are all texts of up to most of the bytes.
func allTexts(bytes string, most int) []string {
	all := []string{""}
	last := all
	for range most {
		var next []string
		for _, s := range last {
			for i := range len(bytes) {
				next = append(next, s+bytes[i:i+1])
			}
		}
		all, last = append(all, next...), next
	}
	return all
}

func shortTexts() []string {
	l := allTexts("a1'/*+-#\n ", 5)
	return append(l, allTexts("'\"`A\x00", 6)...)
}

// reader tells tokens byte by byte, by the state that it is in: another way to the same.
type reader struct {
	l      []lex.Token
	state  string
	mark   byte
	text   string
	before byte
}

// byteIn takes a byte; 0 at the end of all (which no token has outside of a quote). False: it may not stand there.
func (r *reader) byteIn(c byte, end bool) bool {
	switch r.state {
	case "word", "number":
		if !end && (isDigit(c) || r.state == "word" && isLetter(c)) {
			r.text += strings.ToUpper(string(rune(c)))
			return true
		}
		kind := lex.Number
		if r.state == "word" {
			kind = lex.Word
		}
		r.tell(kind)
	case "quote":
		if end {
			return false
		}
		if c == r.mark {
			r.state = "quote twice"
		} else {
			r.text += string([]byte{c})
		}
		return true
	case "quote twice":
		if !end && c == r.mark {
			r.text, r.state = r.text+string(rune(c)), "quote"
			return true
		}
		if r.mark == '\'' {
			r.tell(lex.String)
		} else {
			r.tell(lex.Name)
		}
	case "line":
		if end || c != '\n' {
			return true
		}
		r.state = ""
	case "minus":
		if !end && c == '-' {
			r.state = "line"
			return true
		}
		r.tell(lex.Sign)
	case "slash":
		if !end && c == '*' {
			r.state, r.text = "open", ""
			return true
		}
		r.tell(lex.Sign)
	case "open":
		if end {
			return false
		}
		r.state, r.before = "remark", 0
		if c == '+' {
			r.state = "hint"
			return true
		}
		return r.byteIn(c, end)
	case "remark", "hint":
		if end {
			return false
		}
		if c == '/' && r.before == '*' {
			r.closeRemark()
			return true
		}
		r.text, r.before = r.text+string([]byte{c}), c
		return true
	}
	return end || r.begin(c)
}

func (r *reader) closeRemark() {
	if r.state == "remark" {
		r.state, r.text = "", ""
		return
	}
	text := r.text[:len(r.text)-1]
	for text != "" && isBlank(text[0]) {
		text = text[1:]
	}
	for text != "" && isBlank(text[len(text)-1]) {
		text = text[:len(text)-1]
	}
	r.text = text
	r.tell(lex.Hint)
}

func (r *reader) tell(kind int) {
	r.l = append(r.l, tok(kind, r.text))
	r.state, r.text = "", ""
}

func (r *reader) begin(c byte) bool {
	r.text = string(rune(c))
	switch {
	case isBlank(c):
		r.text = ""
	case isLetter(c):
		r.state, r.text = "word", strings.ToUpper(r.text)
	case isDigit(c):
		r.state = "number"
	case isQuote(c):
		r.state, r.mark, r.text = "quote", c, ""
	case c == '#':
		r.state, r.text = "line", ""
	case c == '-':
		r.state = "minus"
	case c == '/':
		r.state = "slash"
	case c < 33 || c > 126:
		return false
	default:
		r.tell(lex.Sign)
	}
	return true
}

func read(s string) ([]lex.Token, bool) {
	r := &reader{}
	for i := range len(s) {
		if !r.byteIn(s[i], false) {
			return nil, false
		}
	}
	if !r.byteIn(0, true) {
		return nil, false
	}
	return r.l, true
}

// P4.1: all short texts of bytes that begin and end something.
func TestLexShortTexts(t *testing.T) {
	for _, s := range shortTexts() {
		if want, ok := read(s); ok {
			checkLex(t, s, want)
		} else {
			checkLexWrong(t, s, api.ErrForm)
		}
	}
}

// P4.1, P4.3: texts in which what begins and ends something stands in all orders; their tokens come back.
func TestLexPieces(t *testing.T) {
	pieces := []string{"/*", "/*+", "*/", "--", "-", "/", "#", "\n", "'", "\"", "`", "a1", "1a", " ", "é"}
	texts := []string{""}
	for range 4 {
		var next []string
		for _, s := range texts {
			for _, p := range pieces {
				next = append(next, s+p)
			}
		}
		texts = next
		for _, s := range texts {
			want, ok := read(s)
			if !ok {
				checkLexWrong(t, s, api.ErrForm)
				continue
			}
			checkLex(t, s, want)
			checkBack(t, want)
		}
	}
}

// P4.3: remarks and blanks between two tokens, ahead of all and behind all, change nothing.
func TestBlanksAndRemarksBetween(t *testing.T) {
	l := tokens(word("A"), name("b\"`"), str("c' --"), number("12"), hint("d"), sign("-"), sign("-"), sign("/"), sign("*"), word("B"), number("0"))
	between := []string{" ", "\t", "\n", "\r", " \n\t\r ", "/**/", "/* a */", "/*'*/", "--\n", "--a'/*\n", "#\n", "#/*+\n", " /* */\t--\n#\n ", "/* + */", "/*\x00\xff*/", "--é\n"}
	for _, gap := range between {
		var b strings.Builder
		for _, x := range l {
			b.WriteString(gap + " " + lex.Write(tokens(x)) + " " + gap)
		}
		checkLexUnlimited(t, b.String(), l)
		for i := range l {
			for _, x := range l {
				pair := tokens(l[i], x)
				// A space ahead of the gap: a - or a / would begin a remark with it.
				checkLex(t, gap+lex.Write(pair[:1])+" "+gap+lex.Write(pair[1:])+" "+gap, pair)
			}
		}
	}
}

// checkLexUnlimited: as checkLex, for texts that may be too long.
func checkLexUnlimited(t *testing.T, s string, want []lex.Token) {
	t.Helper()
	if len(s) > api.MostText {
		checkLexWrong(t, s, api.ErrLong)
		return
	}
	checkLex(t, s, want)
}

// P4.3: letters' greatness changes nothing but in Names, Strings and Hints.
func TestGreatness(t *testing.T) {
	for _, s := range []string{"select a from b where c = 1", "Insert INTO t_1 -- Remark\nvalues(1x)", "/* Remark */ update T set q=2", "azAZ_09", "begin#End"} {
		want, _ := lex.Lex(s)
		checkLex(t, strings.ToUpper(s), want)
		checkLex(t, strings.ToLower(s), want)
	}
	for _, s := range []string{"'a'", "\"a\"", "`a`", "/*+a*/", "/*+ a B */", "'aé'"} {
		l, _ := lex.Lex(s)
		m, _ := lex.Lex(strings.ToUpper(s))
		if len(l) != 1 || len(m) != 1 || l[0] == m[0] || l[0].Kind != m[0].Kind {
			t.Errorf("%q: %s, and %s", s, told(l...), told(m...))
		}
	}
	for c := byte('a'); c <= 'z'; c++ {
		small, great := string(rune(c)), string(rune(c-'a'+'A'))
		checkLex(t, small+great, tokens(word(great+great)))
		checkLex(t, "'"+small+great+"'", tokens(str(small+great)))
		checkLex(t, "\""+small+great+"\"", tokens(name(small+great)))
		checkLex(t, "/*+"+small+great+"*/", tokens(hint(small+great)))
	}
}

// R1: every call ends soon, and none panics, however much is handed in.
func TestMuch(t *testing.T) {
	const much = 1 << 22
	for _, s := range []string{"x", "'", "\"", "1", " ", "/*", "*/", "\x00", "-"} {
		text := strings.Repeat(s, much)
		checkLexWrong(t, text, api.ErrLong)
		for kind := -1; kind <= 8; kind++ {
			lex.Right(tok(kind, text))
			lex.Write(tokens(tok(kind, text)))
		}
	}
	if !lex.Right(word(strings.Repeat("X", much))) || !lex.Right(number(strings.Repeat("7", much))) {
		t.Error("a long Word or Number may not be")
	}
	if s := lex.Write(make([]lex.Token, much)); len(s) != much-1 {
		t.Errorf("%d bytes", len(s))
	}
	if s := lex.Write(tokens(str(strings.Repeat("'", much)))); len(s) != 2*much+2 {
		t.Errorf("%d bytes", len(s))
	}
}

// R2: a fault at the end leaves none of the tokens ahead of it.
func TestNothingBesideErrors(t *testing.T) {
	for _, s := range []string{"a 1 'b' '", "a 1 \"", "a /*", "a /*+ h", "a \x00", "a --\n\xff", "a;\x7f"} {
		checkLexWrong(t, s, api.ErrForm)
	}
}

// R3: the list stays as it was, with what lies behind it; answers share nothing.
func TestSharesNothing(t *testing.T) {
	room := append(goodTokens(), word("SPARE"), word("SPARE"))
	was := slices.Clone(room)
	given := room[:len(room)-2]
	lex.Write(given)
	for _, x := range given {
		lex.Right(x)
	}
	if !slices.Equal(room, was) {
		t.Errorf("the argument was changed: %s, not %s", told(room...), told(was...))
	}
	first, _ := lex.Lex("a 'b' 1")
	second, _ := lex.Lex("a 'b' 1")
	for i := range first[:cap(first)] {
		first[:cap(first)][i] = number("99")
	}
	want := tokens(word("A"), str("b"), number("1"))
	if !slices.Equal(second, want) {
		t.Errorf("two answers share their tokens: %s", told(second...))
	}
	checkLex(t, "a 'b' 1", want)
}

// R4, R5: nothing is kept: what didn't end, or was too long, changes no later answer.
func TestNothingIsKept(t *testing.T) {
	want := tokens(word("SELECT"), hint("h"), str("x"))
	for _, s := range []string{"'", "/*", "/*+", "--", "\"a", "a\x00", strings.Repeat("x", 300), "1'a'"} {
		lex.Lex(s)
		lex.Write(tokens(str(s), hint(s)))
		checkLex(t, "select/*+h*/'x'", want)
	}
}
