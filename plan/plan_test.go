package plan_test

import (
	"fmt"
	"maps"
	"math"
	"math/rand"
	"slices"
	"strconv"
	"strings"
	"testing"

	"signalman/api"
	"signalman/class"
	"signalman/lex"
	"signalman/plan"
)

// form is a statement that a node knows, token by token: KEY and VALUE stand for Strings.
type form struct {
	tokens string
	do     int
}

func forms() []form {
	return []form{
		{"SELECT V FROM KV WHERE K = KEY", plan.Get},
		{"SELECT * FROM KV", plan.All},
		{"INSERT INTO KV VALUES ( KEY , VALUE )", plan.Put},
		{"UPDATE KV SET V = VALUE WHERE K = KEY", plan.Change},
		{"DELETE FROM KV WHERE K = KEY", plan.Del},
	}
}

// of are the form's tokens with a key and a value, as they are written.
func (f form) of(key, value string) []string {
	l := strings.Fields(f.tokens)
	for i, s := range l {
		switch s {
		case "KEY":
			l[i] = str(key)
		case "VALUE":
			l[i] = str(value)
		}
	}
	return l
}

func (f form) text(key, value string) string { return strings.Join(f.of(key, value), " ") }

// plan is what the form does with a key and a value: what it doesn't name is empty.
func (f form) plan(key, value string) plan.Plan {
	p := plan.Plan{Do: f.do}
	if strings.Contains(f.tokens, "KEY") {
		p.Key = key
	}
	if strings.Contains(f.tokens, "VALUE") {
		p.Value = value
	}
	return p
}

// told is a plan in a few words.
func told(p plan.Plan) string {
	return strconv.Itoa(p.Do) + " " + strconv.Quote(p.Key) + " " + strconv.Quote(p.Value)
}

func str(text string) string { return "'" + strings.ReplaceAll(text, "'", "''") + "'" }

func checkOf(t *testing.T, s string, want plan.Plan) {
	t.Helper()
	if p := plan.Of(s); p != want {
		t.Errorf("Of(%.220q): %s, not %s", s, told(p), told(want))
	}
}

// checkNone: all texts do nothing, and name nothing.
func checkNone(t *testing.T, texts ...string) {
	t.Helper()
	for _, s := range texts {
		checkOf(t, s, plan.Plan{})
	}
}

// checkTokens: what tokens do that are written side by side with a gap between.
func checkTokens(t *testing.T, l []string, gap string, want plan.Plan) {
	t.Helper()
	checkOf(t, strings.Join(l, gap), want)
}

// with are tokens with one more at a place.
func with(l []string, at int, token string) []string {
	return slices.Insert(slices.Clone(l), at, token)
}

// without are tokens without the one at a place.
func without(l []string, at int) []string { return slices.Delete(slices.Clone(l), at, at+1) }

// instead are tokens with another one at a place.
func instead(l []string, at int, token string) []string {
	l = slices.Clone(l)
	l[at] = token
	return l
}

// same tells whether two tokens, as they are written, are one as far as a form goes: any String is.
func same(a, b string) bool {
	if a[0] == '\'' && b[0] == '\'' {
		return true
	}
	return strings.ToUpper(a) == strings.ToUpper(b)
}

// others are tokens of each Kind but Hint, as they are written: words of the forms, and words that are none of these, too.
func others() []string {
	l := strings.Fields("SELECT V FROM KV WHERE K INSERT INTO VALUES UPDATE SET DELETE FOR AND X _ KEY VALUE KVS VV")
	for _, s := range []string{"V", "K", "KV", "SELECT", "a", "'a'", ""} {
		l = append(l, `"`+s+`"`, "`"+s+"`")
	}
	l = append(l, "0", "1", "12")
	l = append(l, strings.Split("* = ( ) , ? . + - ! < > : @ $ % & | ~ ^ [ ] { } \\ /", " ")...)
	return append(l, "'a'", "''", "'V'", "'='", "';'")
}

// cases are a word in small, in great and in mixed letters.
func cases(word string) []string {
	small, great := []byte(strings.ToLower(word)), []byte(strings.ToUpper(word))
	l := []string{string(small), string(great)}
	for i := range small {
		if i%2 == 0 {
			small[i], great[i] = great[i], small[i]
		}
	}
	return append(l, string(small), string(great))
}

// texts are keys and values of all kinds.
func texts() []string {
	l := []string{"", "a", "A", "ab", " ", " a ", "'", "''", "it's", "'''", `"`, "`", `\`, `\'`, ";", ";;", "?", "=", "(", ",", ")", ", ", "KEY", "VALUE", "' WHERE K = '", "' , '", "'; SELECT * FROM KV"}
	l = append(l, strings.Fields("SELECT V FROM KV WHERE K INSERT INTO VALUES UPDATE SET DELETE select v kv")...)
	l = append(l, "--", "#", "/*", "*/", "/**/", "/*+ a */", "-- a\n", "\n", "\t\r\n", "\x00", "\x00a", "\x7f", "\x80", "\xff", "\xff\xfe", "\xc3", "\xc3(", "é", "€", "\U0001F682", "\ufffd")
	return append(l, strings.Repeat("k", 80), strings.Repeat("'", 40))
}

// P6.1, P6.2: what is done, by its numbers.
func TestNumbers(t *testing.T) {
	for i, do := range []int{plan.None, plan.Get, plan.All, plan.Put, plan.Change, plan.Del} {
		if do != i {
			t.Errorf("%d is told as %d", i, do)
		}
	}
}

// P6.1: the forms, as clients write them.
func TestOf(t *testing.T) {
	for _, c := range []struct {
		s    string
		want plan.Plan
	}{
		{"select v from kv where k = 'a'", plan.Plan{Do: plan.Get, Key: "a"}},
		{"select * from kv", plan.Plan{Do: plan.All}},
		{"insert into kv values ('a', 'b')", plan.Plan{Do: plan.Put, Key: "a", Value: "b"}},
		{"update kv set v = 'b' where k = 'a'", plan.Plan{Do: plan.Change, Key: "a", Value: "b"}},
		{"delete from kv where k = 'a'", plan.Plan{Do: plan.Del, Key: "a"}},
		{"SELECT V FROM KV WHERE K='a';", plan.Plan{Do: plan.Get, Key: "a"}},
		{"SELECT*FROM KV", plan.Plan{Do: plan.All}},
		{"INSERT INTO KV VALUES('a','b')", plan.Plan{Do: plan.Put, Key: "a", Value: "b"}},
		{"INSERT INTO KV VALUES('b','a')", plan.Plan{Do: plan.Put, Key: "b", Value: "a"}},
		{"UPDATE KV SET V='b'WHERE K='a'", plan.Plan{Do: plan.Change, Key: "a", Value: "b"}},
		{"UPDATE KV SET V='a'WHERE K='b'", plan.Plan{Do: plan.Change, Key: "b", Value: "a"}},
		{"DELETE FROM KV WHERE K='a';;;", plan.Plan{Do: plan.Del, Key: "a"}},
		{"/*+ replica */ select v from kv -- all\nwhere k = 'it''s' # one\n;", plan.Plan{Do: plan.Get, Key: "it's"}},
	} {
		checkOf(t, c.s, c.want)
	}
}

// P6.1: letters' greatness, of all words and of one alone, and in keys and values, where it stays.
func TestOfGreatness(t *testing.T) {
	for _, f := range forms() {
		l := f.of("aBc", "dEf")
		for i, s := range l {
			if s[0] == '\'' {
				continue
			}
			for _, other := range cases(s) {
				checkTokens(t, instead(l, i, other), " ", f.plan("aBc", "dEf"))
			}
		}
		for way := range 4 {
			all := slices.Clone(l)
			for i, s := range all {
				if s[0] != '\'' {
					all[i] = cases(s)[way]
				}
			}
			checkTokens(t, all, " ", f.plan("aBc", "dEf"))
		}
	}
}

// P6.1: remarks, blanks and Hints ahead, between and behind change nothing.
func TestOfGaps(t *testing.T) {
	for _, gap := range []string{" ", "\t", "\n", "\r", " \t\r\n", "/**/", "/* ; */", "/*'*/", "--\n", "--;\n", "#'\n", "/*+ */", "/*+a*/", "/*+ primary */", "/*+;*/", "/*+ ' */", " /*+a*//*b*/ "} {
		for _, f := range forms() {
			l := f.of("a", "b")
			want := f.plan("a", "b")
			checkTokens(t, l, gap, want)
			checkOf(t, gap+strings.Join(l, gap)+gap, want)
			checkOf(t, gap+gap+strings.Join(l, " ")+gap+gap, want)
			for i := range len(l) + 1 {
				checkTokens(t, with(l, i, gap), " ", want)
			}
		}
	}
	checkNone(t, "", " ", "\t\r\n", "--", "# select * from kv", "/* select * from kv */", "/*+ select * from kv */", "-- select * from kv\n")
	checkNone(t, "sel/**/ect * from kv", "select * from k/**/v", "select * from k v")
	checkNone(t, "insertinto kv values ('a', 'b')", "insert into kvvalues ('a', 'b')", "selectv from kv where k = 'a'")
}

// P6.1: Signs ; are left out at the end, however many they are, and nowhere else.
func TestOfStops(t *testing.T) {
	checkNone(t, ";", ";;", "; ;", "/*+ a */;", ";/*+ a */")
	for _, f := range forms() {
		l := f.of("a", "b")
		want := f.plan("a", "b")
		for _, end := range []string{"", ";", " ;", ";;", "; ;", ";\n;\t;", ";/**/;", ";/*+ a */;", "/*+ a */;", ";/*+ a */", ";--;", ";#", strings.Repeat(";", 100)} {
			checkOf(t, strings.Join(l, " ")+end, want)
		}
		for i := range l {
			for _, end := range []string{"", " ;", ";;"} {
				checkNone(t, strings.Join(with(l, i, ";"), " ")+end, strings.Join(with(l, i, "; ;"), " ")+end)
			}
		}
		for _, more := range []string{"; x", "; ';'", "; ''", "; 1", "; ,", `; ";"`, "; `;`", "; /*+ a */ x", " ';'", ` ";"`, " `;`", "; " + l[0], "; " + strings.Join(l, " ")} {
			checkNone(t, strings.Join(l, " ")+more)
		}
	}
}

// P6.1: each form with one token more, one less, and one in another's place, does nothing.
func TestOfOtherTokens(t *testing.T) {
	for _, f := range forms() {
		l := f.of("a", "b")
		for i := range len(l) + 1 {
			for _, s := range others() {
				checkTokens(t, with(l, i, s), " ", plan.Plan{})
				if i < len(l) && !same(s, l[i]) {
					checkTokens(t, instead(l, i, s), " ", plan.Plan{})
				}
			}
			if i < len(l) {
				checkTokens(t, without(l, i), " ", plan.Plan{})
				checkTokens(t, with(l, i, l[i]), " ", plan.Plan{})
				checkTokens(t, l[:i], " ", plan.Plan{})
				checkTokens(t, l[i+1:], " ", plan.Plan{})
				checkNone(t, strings.Join(l, " ")+" "+strings.Join(l[i:], " "))
			}
		}
	}
}

// P6.1: each word and each Sign in another Kind, and k and v in each other Kind.
func TestOfOtherKinds(t *testing.T) {
	for _, f := range forms() {
		l := f.of("a", "b")
		for i, s := range l {
			s = strings.Trim(s, "'")
			for _, other := range []string{`"` + s + `"`, "`" + s + "`", `"` + strings.ToLower(s) + `"`} {
				checkTokens(t, instead(l, i, other), " ", plan.Plan{})
			}
			if l[i][0] != '\'' {
				checkTokens(t, instead(l, i, str(s)), " ", plan.Plan{})
				checkTokens(t, instead(l, i, "/*+ "+s+" */"), " ", plan.Plan{})
				continue
			}
			for _, other := range []string{"a", "A", "b", "K", "V", "KEY", "1", "0", "?", "*", "/*+ a */", "NULL", "''''''a", "- 'a'", "'a' 'b'", "('a')", "'a' || 'b'"} {
				checkTokens(t, instead(l, i, other), " ", plan.Plan{})
			}
		}
	}
}

// P6.1: two tokens that have changed places do nothing, but two Strings.
func TestOfOrder(t *testing.T) {
	for _, f := range forms() {
		l := f.of("a", "b")
		for i := range l {
			for j := range i {
				if same(l[i], l[j]) {
					continue
				}
				checkTokens(t, instead(instead(l, i, l[j]), j, l[i]), " ", plan.Plan{})
			}
		}
	}
}

// P6.1: statements near to the forms do nothing.
func TestOfNone(t *testing.T) {
	checkNone(t,
		"select k from kv where k = 'a'", "select v from kv", "select v, k from kv where k = 'a'", "select v from kv where v = 'a'",
		"select v from kv where k != 'a'", "select v from kv where k == 'a'", "select v from kv where k like 'a'", "select v from kv where 'a' = k",
		"select v from kv where k = 'a' or k = 'b'", "select v from kv where k = 'a' for update", "select v from kv where (k = 'a')", "select v from kv where kv.k = 'a'",
		"select * from kv where k = 'a'", "select * from kv limit 1", "select * from kv for update", "select *, * from kv", "select k, v from kv", "select * from kvs", "(select * from kv)", "select * from kv kv",
		"insert kv values ('a', 'b')", "insert into kv (k, v) values ('a', 'b')", "insert into kv values ('a')", "insert into kv values ('a', 'b', 'c')",
		"insert into kv values ('a', 'b'), ('c', 'd')", "insert into kv values 'a', 'b'", "insert into kv values ('a' 'b')", "insert into kv value ('a', 'b')", "insert into kv values ()", "replace into kv values ('a', 'b')",
		"update kv set v = 'b'", "update kv set k = 'b' where k = 'a'", "update kv set v = 'b' where v = 'a'", "update kv set v = 'b', v = 'c' where k = 'a'", "update kv set v := 'b' where k = 'a'", "update kv where k = 'a' set v = 'b'",
		"delete from kv", "delete kv where k = 'a'", "delete from kv where v = 'a'", "delete v from kv where k = 'a'", "delete from kv where k = 'a' limit 1",
		"explain select * from kv", "explain analyze delete from kv where k = 'a'", "begin", "commit", "rollback", "set v = 'b'", "show kv", "table kv", "x", "'a'", "1", "*", "\"select * from kv\"", "'select * from kv'",
	)
}

// P6.1: keys and values of all kinds come as they are.
func TestOfTexts(t *testing.T) {
	for _, f := range forms() {
		for _, key := range texts() {
			for _, value := range texts() {
				s := f.text(key, value)
				if len(s) > api.MostText {
					checkNone(t, s)
					continue
				}
				checkOf(t, s, f.plan(key, value))
				checkTokens(t, f.of(key, value), "\n", f.plan(key, value))
			}
		}
	}
}

// P6.1: keys and values of each byte.
func TestOfEachByte(t *testing.T) {
	for i := range 256 {
		b := string([]byte{byte(i)})
		for _, f := range forms() {
			for _, s := range []string{b, b + b, "a" + b, b + "a"} {
				checkOf(t, f.text(s, "x"), f.plan(s, "x"))
				checkOf(t, f.text("x", s), f.plan("x", s))
			}
		}
	}
}

// P6.1: what Lex refuses does nothing.
func TestOfRefused(t *testing.T) {
	for _, f := range forms() {
		s := f.text("a", "b")
		for _, wrong := range []string{"'", "\"", "`", "/*", "/*+", "/*/", "\x00", "\x0b", "\x0c", "\x7f", "\x80", "\xff", "é", "\u00a0", "; '", "; /*"} {
			checkNone(t, s+wrong, s+" "+wrong, wrong+" "+s, s+";"+wrong, wrong)
		}
		if i := strings.LastIndexByte(s, '\''); i >= 0 {
			checkNone(t, s[:i], s[:i]+"''", s[:i]+"\"", s[:i]+"''"+s[i+1:])
		}
	}
}

// P6.1: texts of as many bytes as may be, and of more.
func TestOfLong(t *testing.T) {
	for _, f := range forms() {
		s := f.text("a", "b")
		room := api.MostText - len(s)
		for _, fill := range []string{" ", ";", "\n"} {
			checkOf(t, s+strings.Repeat(fill, room), f.plan("a", "b"))
			checkNone(t, s+strings.Repeat(fill, room+1), s+strings.Repeat(fill, 100000))
		}
		checkOf(t, strings.Repeat(" ", room)+s, f.plan("a", "b"))
		checkOf(t, "--"+strings.Repeat("x", room-3)+"\n"+s, f.plan("a", "b"))
		checkNone(t, strings.Repeat(" ", room+1)+s, "--"+strings.Repeat("x", room-2)+"\n"+s)
		if f.do == plan.All {
			continue
		}
		long := strings.Repeat("k", room+1)
		checkOf(t, f.text(long, "b"), f.plan(long, "b"))
		checkNone(t, f.text(long+"k", "b"), f.text(strings.Repeat("k", 100000), "b"))
	}
}

// P6.1, R4, R5: what was asked ahead changes nothing.
func TestOfNothingIsKept(t *testing.T) {
	var all []string
	var want []plan.Plan
	for _, f := range forms() {
		all = append(all, f.text("a", "b"), f.text("c", ""), f.text("a", "b")+" x")
		want = append(want, f.plan("a", "b"), f.plan("c", ""), plan.Plan{})
	}
	all = append(all, "", "'")
	want = append(want, plan.Plan{}, plan.Plan{})
	for i := range all {
		for j := range all {
			checkOf(t, all[i], want[i])
			checkOf(t, all[j], want[j])
		}
	}
}

// W1: what is classed as a read writes nothing, and what writes is a write.
func TestReadsWriteNothing(t *testing.T) {
	c := class.New()
	check := func(s string) {
		t.Helper()
		do, n := plan.Of(s).Do, c.Class(s)
		if writes := do == plan.Put || do == plan.Change || do == plan.Del; writes && n != class.Write {
			t.Errorf("%q does %d, and is of class %d", s, do, n)
		}
		if reads := do == plan.Get || do == plan.All; reads && n != class.Read {
			t.Errorf("%q does %d, and is of class %d", s, do, n)
		}
	}
	for _, f := range forms() {
		for _, key := range texts() {
			check(f.text(key, "b"))
			check("/*+ replica */" + f.text("a", key) + ";;")
			check("explain " + f.text(key, "b"))
			check("explain analyze " + f.text(key, "b"))
		}
		l := f.of("a", "b")
		for i := range l {
			for _, s := range others() {
				check(strings.Join(instead(l, i, s), " "))
			}
		}
	}
}

// keys rise by their bytes.
func keys() []string {
	return []string{"", "\x00", "\x00a", " ", "'", "A", "B", "a", "a\x00", "aa", "ab", "b", "\x7f", "\x80", "é", "\xff", "\xff\xff"}
}

// model is a table in another form.
type model map[string]string

// table is what a model is as a table.
func (m model) table() []plan.Pair {
	var l []plan.Pair
	for _, key := range slices.Sorted(maps.Keys(m)) {
		l = append(l, plan.Pair{Key: key, Value: m[key]})
	}
	return l
}

// writes changes a model as a plan does, and tells how many keys that concerned.
func (m model) writes(p plan.Plan) int {
	_, there := m[p.Key]
	switch {
	case p.Do == plan.Put, p.Do == plan.Change && there:
		m[p.Key] = p.Value
	case p.Do == plan.Del && there:
		delete(m, p.Key)
	default:
		return 0
	}
	return 1
}

// reads tells what a plan reads of a model.
func (m model) reads(p plan.Plan) []string {
	var l []string
	if value, there := m[p.Key]; p.Do == plan.Get && there {
		l = append(l, value)
	}
	if p.Do == plan.All {
		for _, x := range m.table() {
			l = append(l, x.Key, x.Value)
		}
	}
	return l[:min(len(l), 20)]
}

// numbers are those of what is done, and others.
func numbers() []int {
	return []int{plan.None, plan.Get, plan.All, plan.Put, plan.Change, plan.Del, 6, 7, -1, -3, 256 + plan.Put, 1 << 16, 1<<16 + plan.Put, math.MaxInt, math.MinInt}
}

// brief is a list in a few words, however long it is.
func brief[E string | plan.Pair](l []E) string {
	s := fmt.Sprintf("%q", l)
	return s[:min(200, len(s))]
}

func checkReads(t *testing.T, p plan.Plan, l []plan.Pair, want []string) {
	t.Helper()
	if out := plan.Reads(p, l); !slices.Equal(out, want) {
		t.Errorf("Reads(%s, %s): %s, not %s", told(p), brief(l), brief(out), brief(want))
	}
}

func checkWrites(t *testing.T, p plan.Plan, l, want []plan.Pair, n int) []plan.Pair {
	t.Helper()
	out, m := plan.Writes(p, l)
	if !slices.Equal(out, want) || m != n {
		t.Errorf("Writes(%s, %s): %s, %d, not %s, %d", told(p), brief(l), brief(out), m, brief(want), n)
	}
	return out
}

// checkPlan: what a plan reads and writes of a model's table, which reads as it did behind that (R3).
func checkPlan(t *testing.T, p plan.Plan, m model) {
	t.Helper()
	if t.Failed() { // one fault shows in thousands of these
		return
	}
	l := m.table()
	behind := maps.Clone(m)
	n := behind.writes(p)
	checkReads(t, p, l, m.reads(p))
	checkWrites(t, p, l, behind.table(), n)
	if !slices.Equal(l, m.table()) {
		t.Errorf("%s changes the table that is passed in: %s, not %s", told(p), brief(l), brief(m.table()))
	}
}

// of is a model of pairs like a=1.
func of(pairs string) model {
	m := model{}
	for _, s := range strings.Fields(pairs) {
		key, value, _ := strings.Cut(s, "=")
		m[key] = value
	}
	return m
}

// P6.2: what is read of ordinary tables.
func TestReads(t *testing.T) {
	for _, c := range []struct {
		p     plan.Plan
		table string
		want  string
	}{
		{plan.Plan{Do: plan.Get, Key: "a"}, "a=1 b=2 c=3", "1"},
		{plan.Plan{Do: plan.Get, Key: "b"}, "a=1 b=2 c=3", "2"},
		{plan.Plan{Do: plan.Get, Key: "c", Value: "x"}, "a=1 b=2 c=3", "3"},
		{plan.Plan{Do: plan.Get, Key: "d"}, "a=1 b=2 c=3", ""},
		{plan.Plan{Do: plan.Get, Key: "1"}, "a=1 b=2 c=3", ""},
		{plan.Plan{Do: plan.Get, Key: "a"}, "", ""},
		{plan.Plan{Do: plan.All}, "", ""},
		{plan.Plan{Do: plan.All}, "a=1", "a 1"},
		{plan.Plan{Do: plan.All}, "b=1 a=2 c=1", "a 2 b 1 c 1"},
		{plan.Plan{Do: plan.All, Key: "a", Value: "2"}, "a=1 b=2", "a 1 b 2"},
		{plan.Plan{Do: plan.None, Key: "a"}, "a=1", ""},
		{plan.Plan{Do: plan.Put, Key: "a"}, "a=1", ""},
		{plan.Plan{Do: plan.Change, Key: "a"}, "a=1", ""},
		{plan.Plan{Do: plan.Del, Key: "a"}, "a=1", ""},
		{plan.Plan{Do: 6, Key: "a"}, "a=1", ""},
		{plan.Plan{Do: -1, Key: "a"}, "a=1", ""},
	} {
		checkReads(t, c.p, of(c.table).table(), strings.Fields(c.want))
	}
}

// P6.2: a value that is empty is read as one text, and is another thing than none.
func TestReadsEmpty(t *testing.T) {
	l := []plan.Pair{{Key: "", Value: ""}, {Key: "a", Value: ""}}
	checkReads(t, plan.Plan{Do: plan.Get}, l, []string{""})
	checkReads(t, plan.Plan{Do: plan.Get, Key: "a"}, l, []string{""})
	checkReads(t, plan.Plan{Do: plan.Get, Key: "b"}, l, nil)
	checkReads(t, plan.Plan{Do: plan.Get}, l[1:], nil)
	checkReads(t, plan.Plan{Do: plan.All}, l, []string{"", "", "a", ""})
	checkReads(t, plan.Plan{Do: plan.All}, []plan.Pair{}, nil)
}

// P6.2: what is written to ordinary tables.
func TestWrites(t *testing.T) {
	for _, c := range []struct {
		p           plan.Plan
		table, want string
		n           int
	}{
		{plan.Plan{Do: plan.Put, Key: "a", Value: "1"}, "", "a=1", 1},
		{plan.Plan{Do: plan.Put, Key: "a", Value: "1"}, "b=2", "a=1 b=2", 1},
		{plan.Plan{Do: plan.Put, Key: "c", Value: "1"}, "b=2", "b=2 c=1", 1},
		{plan.Plan{Do: plan.Put, Key: "c", Value: "1"}, "b=2 d=4", "b=2 c=1 d=4", 1},
		{plan.Plan{Do: plan.Put, Key: "b", Value: "1"}, "b=2 d=4", "b=1 d=4", 1},
		{plan.Plan{Do: plan.Put, Key: "b", Value: "2"}, "b=2 d=4", "b=2 d=4", 1},
		{plan.Plan{Do: plan.Put, Key: "b"}, "b=2 d=4", "b= d=4", 1},
		{plan.Plan{Do: plan.Change, Key: "b", Value: "1"}, "b=2 d=4", "b=1 d=4", 1},
		{plan.Plan{Do: plan.Change, Key: "d", Value: "4"}, "b=2 d=4", "b=2 d=4", 1},
		{plan.Plan{Do: plan.Change, Key: "c", Value: "1"}, "b=2 d=4", "b=2 d=4", 0},
		{plan.Plan{Do: plan.Change, Key: "2", Value: "1"}, "b=2 d=4", "b=2 d=4", 0},
		{plan.Plan{Do: plan.Change, Key: "a", Value: "1"}, "", "", 0},
		{plan.Plan{Do: plan.Del, Key: "b"}, "b=2 d=4", "d=4", 1},
		{plan.Plan{Do: plan.Del, Key: "d", Value: "2"}, "b=2 d=4", "b=2", 1},
		{plan.Plan{Do: plan.Del, Key: "b"}, "b=2", "", 1},
		{plan.Plan{Do: plan.Del, Key: "c"}, "b=2 d=4", "b=2 d=4", 0},
		{plan.Plan{Do: plan.Del, Key: "a"}, "", "", 0},
		{plan.Plan{Do: plan.None, Key: "b", Value: "1"}, "b=2", "b=2", 0},
		{plan.Plan{Do: plan.Get, Key: "b", Value: "1"}, "b=2", "b=2", 0},
		{plan.Plan{Do: plan.All, Key: "b", Value: "1"}, "b=2", "b=2", 0},
		{plan.Plan{Do: 6, Key: "b", Value: "1"}, "b=2", "b=2", 0},
		{plan.Plan{Do: -3, Key: "b", Value: "1"}, "b=2", "b=2", 0},
	} {
		checkWrites(t, c.p, of(c.table).table(), of(c.want).table(), c.n)
	}
}

// P6.2: each number of what is done, at each key, of each table of up to three keys, and of all keys but one.
func TestEachTable(t *testing.T) {
	all := keys()
	var tables []model
	for i, a := range all {
		but := model{}
		for _, key := range all {
			if key != a {
				but[key] = "v" + key
			}
		}
		tables = append(tables, but)
		for j, b := range all[:i+1] {
			for _, c := range all[:j+1] {
				tables = append(tables, model{a: "1", b: "", c: "3"})
			}
		}
	}
	tables = append(tables, model{})
	for _, m := range tables {
		for _, do := range numbers() {
			for _, key := range all {
				checkPlan(t, plan.Plan{Do: do, Key: key, Value: "x"}, m)
			}
			checkPlan(t, plan.Plan{Do: do, Key: "a", Value: m["a"]}, m)
		}
	}
}

// sized is a model of so many keys, with room for another between each two.
func sized(pairs int) model {
	m := model{}
	for i := range pairs {
		m[string([]byte{byte(i >> 8), byte(i), 'm'})] = strconv.Itoa(i)
	}
	return m
}

// P6.2: tables of many pairs: All tells no more than MostTexts texts, and each key is found, ahead of all, behind all, and between two.
func TestSizes(t *testing.T) {
	for _, pairs := range []int{0, 1, 2, 3, 4, 7, 8, 9, 10, 11, 12, 19, 20, 21, 100, api.MostLog} {
		m := sized(pairs)
		l := m.table()
		out := plan.Reads(plan.Plan{Do: plan.All}, l)
		if len(out) != min(2*pairs, api.MostTexts) {
			t.Fatalf("All of %d pairs: %d texts", pairs, len(out))
		}
		for i, s := range out {
			if want := []string{l[i/2].Key, l[i/2].Value}[i%2]; s != want {
				t.Errorf("All of %d pairs: text %d is %q, not %q", pairs, i, s, want)
			}
		}
		for _, do := range numbers() {
			for _, x := range l {
				for _, key := range []string{x.Key, x.Key[:2], x.Key + "\x00", x.Value} {
					checkPlan(t, plan.Plan{Do: do, Key: key, Value: "x"}, m)
				}
				checkPlan(t, plan.Plan{Do: do, Key: x.Key, Value: x.Value}, m)
			}
			checkPlan(t, plan.Plan{Do: do, Key: "", Value: "x"}, m)
			checkPlan(t, plan.Plan{Do: do, Key: "\xff", Value: "x"}, m)
		}
	}
}

// P6.2: All is cut just behind the tenth pair, whatever texts there are.
func TestAllIsCut(t *testing.T) {
	var l []plan.Pair
	var want []string
	for i := range 30 {
		l = append(l, plan.Pair{Key: strings.Repeat("a", i)})
		want = append(want, l[i].Key, "")
	}
	for pairs := range 31 {
		checkReads(t, plan.Plan{Do: plan.All}, l[:pairs], want[:min(2*pairs, 20)])
	}
	checkReads(t, plan.Plan{Do: plan.Get, Key: l[29].Key}, l, []string{""})
}

// P6.3: what was put is read, a change of what is there too, and what was taken away is not; no other key changes; tables stay tables.
func TestWhatFollows(t *testing.T) {
	draws := rand.New(rand.NewSource(6))
	all := keys()
	var l []plan.Pair
	for i := 0; i < 20000 && !t.Failed(); i++ { // what follows a fault says nothing more
		p := plan.Plan{Do: plan.Put + draws.Intn(3), Key: all[draws.Intn(len(all))], Value: strconv.Itoa(draws.Intn(5))}
		before := slices.Clone(l)
		next, n := plan.Writes(p, l)
		was := plan.Reads(plan.Plan{Do: plan.Get, Key: p.Key}, before)
		want := was
		switch {
		case p.Do == plan.Put, p.Do == plan.Change && was != nil:
			want = []string{p.Value}
		case p.Do == plan.Del:
			want = nil
		}
		checkReads(t, plan.Plan{Do: plan.Get, Key: p.Key}, next, want)
		if want := p.Do == plan.Put || was != nil; n < 0 || n > 1 || want != (n == 1) {
			t.Errorf("%s of %s concerns %d", told(p), brief(before), n)
		}
		for _, key := range all {
			if key != p.Key {
				checkReads(t, plan.Plan{Do: plan.Get, Key: key}, next, plan.Reads(plan.Plan{Do: plan.Get, Key: key}, before))
			}
		}
		checkTable(t, next)
		l = next
	}
}

// checkTable: each key stands once, rising by their bytes, and All tells the first ones.
func checkTable(t *testing.T, l []plan.Pair) {
	t.Helper()
	var want []string
	for i, x := range l {
		if i > 0 && strings.Compare(l[i-1].Key, x.Key) >= 0 {
			t.Errorf("%q isn't behind %q", x.Key, l[i-1].Key)
		}
		want = append(want, x.Key, x.Value)
	}
	checkReads(t, plan.Plan{Do: plan.All}, l, want[:min(len(want), 20)])
}

// P6.1 to P6.3: statements, one behind the other, held against a model.
func TestStatements(t *testing.T) {
	draws := rand.New(rand.NewSource(66))
	all, keys := forms(), texts()[:20]
	m := model{}
	var l []plan.Pair
	for i := 0; i < 20000 && !t.Failed(); i++ {
		f, key, value := all[draws.Intn(len(all))], keys[draws.Intn(len(keys))], keys[draws.Intn(len(keys))]
		p := plan.Of(f.text(key, value))
		checkReads(t, p, l, m.reads(f.plan(key, value)))
		n := m.writes(f.plan(key, value))
		l = checkWrites(t, p, l, m.table(), n)
		checkTable(t, l)
	}
	for _, f := range all {
		p := plan.Of(f.text("a", "b") + " x")
		checkReads(t, p, l, nil)
		checkWrites(t, p, l, l, 0)
	}
}

// R3: what is answered shares nothing with the table that is passed in: neither changes with the other, nor is what stands behind that one touched.
func TestNothingIsShared(t *testing.T) {
	for _, do := range numbers() {
		for _, key := range []string{"", "a", "b", "c", "d", "e", "f"} {
			behind := plan.Pair{Key: "behind", Value: "it"}
			kept := []plan.Pair{{Key: "a", Value: "1"}, {Key: "c", Value: "2"}, {Key: "e", Value: "3"}, behind, behind, behind}
			was := slices.Clone(kept)
			p := plan.Plan{Do: do, Key: key, Value: "x"}
			out, _ := plan.Writes(p, kept[:3])
			again, _ := plan.Writes(p, kept[:3])
			read := plan.Reads(p, kept[:3])
			if !slices.Equal(kept, was) {
				t.Fatalf("%s changes what is passed in: %q", told(p), kept)
			}
			for i := range out {
				out[i] = plan.Pair{Key: "z", Value: "z"}
			}
			_ = append(out, plan.Pair{Key: "z"}, plan.Pair{Key: "z"})
			for i := range read {
				read[i] = "z"
			}
			if !slices.Equal(kept, was) {
				t.Fatalf("what %s answers is the table that is passed in: %q", told(p), kept)
			}
			want := slices.Clone(again)
			clear(kept)
			if !slices.Equal(again, want) {
				t.Fatalf("what %s answers changes with what is passed in: %q, not %q", told(p), again, want)
			}
		}
	}
}

// R2: what is none of the plans reads nothing, and leaves each table as it is, whatever it names.
func TestOtherNumbers(t *testing.T) {
	l := sized(15).table()
	for _, do := range append(numbers()[6:], plan.None) {
		for _, key := range append(keys(), l[0].Key, l[7].Key, l[14].Key) {
			p := plan.Plan{Do: do, Key: key, Value: "x"}
			checkReads(t, p, l, nil)
			checkWrites(t, p, l, l, 0)
			checkReads(t, p, nil, nil)
			checkWrites(t, p, nil, nil, 0)
		}
	}
}

// R1: lists that are no tables come to an answer, too.
func TestNoTables(t *testing.T) {
	a, b := plan.Pair{Key: "a", Value: "1"}, plan.Pair{Key: "b", Value: "2"}
	for _, l := range [][]plan.Pair{{b, a}, {a, a}, {b, b, a, a}, {b, a, b, a, b}, {{}, {}, {}}} {
		was := slices.Clone(l)
		for _, do := range numbers() {
			for _, key := range []string{"", "a", "ab", "b", "c"} {
				p := plan.Plan{Do: do, Key: key, Value: "x"}
				plan.Reads(p, l)
				plan.Writes(p, l)
				if !slices.Equal(l, was) {
					t.Fatalf("%s changes %q", told(p), was)
				}
			}
		}
	}
}

// R1, P6.1: all short rows of tokens that the forms are made of are none of them, and are answered.
func TestShortRows(t *testing.T) {
	parts := append(strings.Fields("SELECT V FROM KV WHERE K = INSERT INTO VALUES ( ) , UPDATE SET DELETE * ;"), "'a'", "/*+ a */")
	rows := []string{""}
	for range 3 {
		var next []string
		for _, s := range rows {
			for _, part := range parts {
				next = append(next, s+part+" ")
			}
		}
		rows = next
		checkNone(t, rows...)
	}
}

// P6.1: rows of tokens that are drawn: what is done hangs on them alone, not on how they are written.
func TestWrittenAgain(t *testing.T) {
	draws := rand.New(rand.NewSource(666))
	all, more := forms(), others()
	for range 20000 {
		l := all[draws.Intn(len(all))].of("a", "b")
		if draws.Intn(2) == 0 {
			l[draws.Intn(len(l))] = more[draws.Intn(len(more))]
		}
		s := strings.Join(l, "/*+ x */\n")
		tokens, e := lex.Lex(s)
		if e != api.OK {
			continue
		}
		checkOf(t, lex.Write(tokens), plan.Of(s))
	}
}
