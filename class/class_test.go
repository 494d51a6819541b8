package class_test

import (
	"math/rand"
	"regexp"
	"slices"
	"strings"
	"sync"
	"testing"

	"signalman/api"
	"signalman/class"
	"signalman/lex"
)

// row is a statement, and its class.
type row struct {
	s    string
	want int
}

func checkClass(t *testing.T, c *class.Classer, s string, want int) {
	t.Helper()
	if n := c.Class(s); n != want {
		t.Errorf("Class(%.80q): %d, not %d", s, n, want)
	}
}

func checkAsks(t *testing.T, c *class.Classer, s string, want int) {
	t.Helper()
	if n := c.Asks(s); n != want {
		t.Errorf("Asks(%.80q): %d, not %d", s, n, want)
	}
}

func checkRows(t *testing.T, rows []row) {
	t.Helper()
	c := class.New()
	for _, r := range rows {
		checkClass(t, c, r.s, r.want)
	}
}

// checkEach: all texts have one class.
func checkEach(t *testing.T, want int, texts ...string) {
	t.Helper()
	c := class.New()
	for _, s := range texts {
		checkClass(t, c, s, want)
	}
}

func split(words string) []string { return strings.Fields(words) }

func showWords() []string { return split("SHOW DESCRIBE DESC EXPLAIN") }

func writeWords() []string {
	return split("INSERT UPDATE DELETE REPLACE CREATE DROP ALTER TRUNCATE GRANT REVOKE CALL LOCK")
}

func selectWords() []string { return split("SELECT VALUES TABLE WITH") }

// insideWords are those that make a Write of what selects.
func insideWords() []string { return split("INSERT UPDATE DELETE REPLACE INTO SHARE") }

// heads are the words that rules 3 to 8 name as a first one, with the class that each has alone.
func heads() []row {
	var l []row
	for _, w := range showWords() {
		l = append(l, row{w, class.Read})
	}
	for _, w := range writeWords() {
		l = append(l, row{w, class.Write})
	}
	for _, w := range selectWords() {
		l = append(l, row{w, class.Read})
	}
	l[len(l)-1].want = class.Unknown // WITH without SELECT
	return append(l, row{"BEGIN", class.Begin}, row{"START", class.Unknown}, row{"COMMIT", class.Commit}, row{"ROLLBACK", class.Rollback}, row{"SET", class.Set})
}

// innerWords are those that the rules name, but not as a first one.
func innerWords() []string {
	return split("ANALYZE ANALYSE INTO SHARE WORK TRANSACTION AUTOCOMMIT GLOBAL PERSIST")
}

// ordinary are statements as clients write them, of each class but Bad.
func ordinary() []row {
	return []row{
		{"select v from kv where k = 'a'", class.Read},
		{"SELECT * FROM kv;", class.Read},
		{"values (1, 2)", class.Read},
		{"table kv", class.Read},
		{"with x as (select 1) select * from x", class.Read},
		{"show tables", class.Read},
		{"describe kv", class.Read},
		{"desc kv", class.Read},
		{"explain delete from kv where k = 'a'", class.Read},
		{"explain analyze select 1", class.Read},
		{"insert into kv values ('a', 'b')", class.Write},
		{"update kv set v = 'b' where k = 'a'", class.Write},
		{"delete from kv where k = 'a'", class.Write},
		{"replace into kv values ('a', 'b')", class.Write},
		{"create table t (a int)", class.Write},
		{"drop table t", class.Write},
		{"alter table t add b int", class.Write},
		{"truncate t", class.Write},
		{"grant select on t to u", class.Write},
		{"revoke select on t from u", class.Write},
		{"call f(1)", class.Write},
		{"lock tables t read", class.Write},
		{"select 1 for update", class.Write},
		{"select 1 lock in share mode", class.Write},
		{"select * into t from kv", class.Write},
		{"with x as (select 1) insert into t select * from x", class.Write},
		{"explain analyze update kv set v = 'b'", class.Write},
		{"begin", class.Begin},
		{"begin work;", class.Begin},
		{"start transaction read only", class.Begin},
		{"commit", class.Commit},
		{"commit work;", class.Commit},
		{"rollback", class.Rollback},
		{"rollback work;", class.Rollback},
		{"set names 'utf8'", class.Set},
		{"set @a = 1", class.Set},
		{"set autocommit = 0", class.Unknown},
		{"use x", class.Unknown},
		{"savepoint a", class.Unknown},
		{"rollback to savepoint a", class.Unknown},
		{"(select 1)", class.Unknown},
		{"select 1; select 2", class.Unknown},
	}
}

// cases are a word in small, in great and in mixed letters.
func cases(word string) []string {
	small, great := strings.ToLower(word), strings.ToUpper(word)
	first, second := []byte(small), []byte(great)
	for i := range first {
		if i%2 == 0 {
			first[i], second[i] = second[i], first[i]
		}
	}
	return []string{small, great, string(first), string(second)}
}

// quotes are a word as a Name and as a String.
func quotes(word string) []string {
	return []string{`"` + word + `"`, "`" + word + "`", "'" + word + "'"}
}

// asides are a word within remarks and Hints.
func asides(word string) []string {
	return []string{"/*" + word + "*/", "/* " + word + " */", "--" + word + "\n", "-- " + word + "\n", "#" + word + "\n", "/*+" + word + "*/", "/*+ " + word + " */", "/*+primary " + word + "*/"}
}

// P5.1: the classes, and where statements ask to go, by their numbers.
func TestNumbers(t *testing.T) {
	for i, n := range []int{class.Bad, class.Read, class.Write, class.Begin, class.Commit, class.Rollback, class.Set, class.Unknown} {
		if n != i {
			t.Errorf("class %d is told as %d", i, n)
		}
	}
	for i, n := range []int{class.Anywhere, class.Primary, class.Replica} {
		if n != i {
			t.Errorf("place %d is told as %d", i, n)
		}
	}
}

// P5.1: ordinary statements of each class.
func TestClass(t *testing.T) {
	checkRows(t, ordinary())
	c := class.New()
	for _, r := range ordinary() {
		checkClass(t, class.New(), r.s, r.want)
		checkAsks(t, c, r.s, class.Anywhere)
	}
}

// P5.1, rule 1: what lex has an error of is Bad, whatever it begins with.
func TestBad(t *testing.T) {
	faults := []string{"'", "\"", "`", "'a''", "\"a'", "`a\"", "/*", "/*/", "/* a", "/*+", "/*+ a", "/*+ primary", "é", "\x00", "\x1f", "\x7f", "\x80", "\xff", "\v", "\f"}
	c := class.New()
	for _, fault := range faults {
		checkClass(t, c, fault, class.Bad)
		checkClass(t, c, "/*+ primary */"+fault, class.Bad)
		checkClass(t, c, ";"+fault, class.Bad)
		checkClass(t, c, "1 "+fault, class.Bad)
		for _, r := range ordinary() {
			checkClass(t, c, r.s+" "+fault, class.Bad)
			checkAsks(t, c, "/*+ replica */"+r.s+" "+fault, class.Anywhere)
		}
	}
}

// P5.1, rule 2: no tokens, and a first one that is no word.
func TestNoFirstWord(t *testing.T) {
	checkEach(t, class.Unknown, "", " ", "\t\r\n", "/**/", "/* select */", "--", "-- select", "#select", "--\n", "/*+*/", "/*+ select */", "/*+ primary *//*+ replica */", "/*+a*/ -- b")
	checkEach(t, class.Unknown, "1", "1 select", "0", "'a'", "'' select", `"a" select`, "`a` select", "(", "(select 1)", "* select", "-", "- select", "/ select", "?", "@a", ", insert", "1insert", "2begin", "'select' select 1", "= commit", "'' ;", "1;")
	for c := byte(33); c <= 126; c++ {
		l, e := lex.Lex(string(rune(c)))
		if e == api.OK && len(l) == 1 && l[0].Kind != lex.Word {
			checkEach(t, class.Unknown, string(rune(c)), string(rune(c))+" select 1", string(rune(c))+"insert", string(rune(c))+" begin;")
		}
	}
}

// P5.1, rule 2: Signs ; alone, at the end, several of them, with remarks, blanks and Hints behind and between.
func TestStopsAtTheEnd(t *testing.T) {
	checkEach(t, class.Unknown, ";", ";;", "; ;", ";;;;", " ; ", "/**/;", ";--", "/*+ a */;", ";/*+ a */", "; /*+a*/ ;")
	ends := []string{";", ";;", ";;;", " ;", "; ", " ; ; ", ";\n;", ";\t\r\n", "/**/;", ";/**/", "/*;*/", ";/*a*/;", ";--a", "; --;", ";--a\n;", ";#a\n;#", ";/*+a*/", "/*+a*/;", ";/*+a*/;", ";/*+ ; */;/*+*/", "/*+a*//*+b*/", ";;/*a*/ ;/*+b*/--c\n;;", strings.Repeat(";", 60)}
	c := class.New()
	for _, r := range ordinary() {
		for _, end := range ends {
			if len(r.s+end) <= api.MostText {
				checkClass(t, c, r.s+end, r.want)
			}
		}
	}
}

// P5.1, rule 2: a Sign ; that is left makes it Unknown, whatever stands ahead; one within quotes is none.
func TestStopsLeft(t *testing.T) {
	c := class.New()
	for _, h := range heads() {
		for _, more := range []string{"; a", ";a;", " ; 1;;", ";;a", ";'';", `;"";`, " transaction; a", " work; a", " select; a", " insert;a", ";/**/a", ";/*+a*/a", ";("} {
			checkClass(t, c, h.s+more, class.Unknown)
		}
		checkClass(t, c, ";"+h.s, class.Unknown)
		checkClass(t, c, "; "+h.s+";", class.Unknown)
	}
	checkEach(t, class.Read, "select ';'", "select \";\"", "select `;`", "select /*;*/ 1", "select /*+;*/ 1", "select --;\n1", "select 1 #;", "select ';' ;", "show ';' a")
	checkEach(t, class.Unknown, "select 1; select 2", "explain; select 1", "explain analyze; select 1", "explain analyze select 1; select 2", "explain select 1; a", "begin; work", "start; transaction", "start transaction; a", "commit;work", "set;a", "drop a; drop b")
}

// P5.1: each word that the rules name as a first one, in all letters, alone and with more behind.
func TestFirstWords(t *testing.T) {
	c := class.New()
	for _, h := range heads() {
		for _, word := range cases(h.s) {
			checkClass(t, c, word, h.want)
			checkClass(t, c, " \t\n"+word+"\r\n", h.want)
			checkClass(t, c, word+";", h.want)
			checkClass(t, c, "/*+ a */"+word, h.want)
			checkClass(t, c, "--a\n"+word+"/**/", h.want)
		}
	}
	for _, word := range slices.Concat(showWords(), writeWords(), split("SELECT VALUES TABLE SET")) {
		want := c.Class(word)
		for _, cased := range cases(word) {
			for _, more := range []string{" a", " 1", "'a'", `"a"`, "(1)", " * from a where b = 'c'", " select 1", " begin", " commit", " autocommits", " ="} {
				checkClass(t, c, cased+more, want)
			}
		}
	}
}

// P5.1: a first word that is named as a Name, as a String, or within a remark or a Hint, is no word.
func TestFirstWordsThatAreNone(t *testing.T) {
	c := class.New()
	for _, h := range append(heads(), row{s: "START TRANSACTION"}, row{s: "WITH SELECT"}) {
		for _, word := range cases(h.s) {
			for _, quote := range quotes(word) {
				for _, more := range []string{"", " a", ";", " select 1", " transaction", " insert"} {
					checkClass(t, c, quote+more, class.Unknown)
				}
			}
			for _, aside := range asides(word) {
				checkClass(t, c, aside, class.Unknown)
				checkClass(t, c, aside+"foo", class.Unknown)
				checkClass(t, c, aside+"drop a", class.Write)
				checkClass(t, c, aside+"commit", class.Commit)
				checkClass(t, c, aside+"begin "+aside, class.Begin)
				checkClass(t, c, aside+"select "+aside+" 1 "+aside, class.Read)
			}
		}
	}
}

// P5.1, rule 9: other first words, such as are named within statements, and such as look like those that begin them.
func TestOtherFirstWords(t *testing.T) {
	for _, word := range innerWords() {
		checkEach(t, class.Unknown, cases(word)...)
		checkEach(t, class.Unknown, word+" select 1", word+" insert", word+" transaction", word+" work", word+";")
	}
	checkEach(t, class.Unknown, split("foo a _ x1 end use merge upsert abort prepare execute savepoint release unlock")...)
	for _, h := range heads() {
		w := h.s
		checkEach(t, class.Unknown, w+"_", "_"+w, w+"1", "1"+w, w+"s", "x"+w, w[1:], w[:len(w)-1]+"X", w+w, w+"_ TRANSACTION", w+"1 SELECT 1")
	}
	c := class.New()
	for _, h := range heads() {
		if cut := h.s[:len(h.s)-1]; c.Class(cut) != class.Unknown {
			t.Errorf("%q is no word that begins statements", cut)
		}
	}
}

// P5.1, rule 3: what only shows is a Read, whatever is behind.
func TestShows(t *testing.T) {
	c := class.New()
	for _, word := range showWords() {
		for _, h := range append(heads(), row{s: "foo"}, row{s: "1"}, row{s: "'a'"}) {
			checkClass(t, c, word+" "+h.s, class.Read)
			checkClass(t, c, word+" "+h.s+" a into b", class.Read)
		}
	}
	for _, word := range split("SHOW DESCRIBE DESC") {
		for _, s := range split("ANALYZE ANALYSE") {
			checkEach(t, class.Read, word+" "+s, word+" "+s+" drop a", word+" "+s+" foo")
		}
	}
}

// P5.1, rule 3: EXPLAIN ahead of ANALYZE and ANALYSE, and these ahead of each class.
func TestExplainAnalyze(t *testing.T) {
	c := class.New()
	checkClass(t, c, "explain", class.Read)
	checkClass(t, c, "explain;", class.Read)
	for _, word := range append(cases("ANALYZE"), cases("ANALYSE")...) {
		explain := "eXplain " + word
		checkClass(t, c, explain, class.Unknown)
		checkClass(t, c, explain+";;", class.Unknown)
		checkClass(t, c, explain+" 1", class.Unknown)
		checkClass(t, c, explain+" 'drop'", class.Unknown)
		checkClass(t, c, explain+" (select 1)", class.Unknown)
		for _, r := range append(ordinary(), heads()...) {
			want := class.Read
			if r.want == class.Write || r.want == class.Unknown {
				want = r.want
			}
			checkClass(t, c, explain+" "+r.s, want)
			checkClass(t, c, "explain/*+a*/"+word+"/**/"+r.s+"/*+b*/;", want)
			checkClass(t, c, "explain "+r.s, c.Class("show "+r.s))
		}
	}
}

// P5.1, rule 3: the second token alone, as a word, makes one that analyzes.
func TestExplainWithoutAnalyze(t *testing.T) {
	for _, word := range split("ANALYZE ANALYSE") {
		for _, quote := range quotes(word) {
			checkEach(t, class.Read, "explain "+quote, "explain "+quote+" drop a", "explain "+quote+" foo")
		}
		for _, aside := range asides(word) {
			checkEach(t, class.Read, "explain "+aside, "explain "+aside+" drop a", "explain "+aside+" foo")
		}
		checkEach(t, class.Read, "explain a "+word+" drop a", "explain ("+word+") drop a", "explain verbose "+word+" drop a", "explain 1 "+word, "explain "+word+"s drop a", "explain "+word+"_ foo", "explain explain "+word+" drop a", "explain drop "+word)
		checkEach(t, class.Unknown, word, word+" explain", word+" drop a", word+" select 1")
	}
}

// P5.1, rule 3: one that analyzes another.
func TestExplainExplain(t *testing.T) {
	checkRows(t, []row{
		{"explain explain", class.Read},
		{"explain explain drop a", class.Read},
		{"explain explain analyze drop a", class.Read},
		{"explain analyze explain", class.Read},
		{"explain analyze explain drop a", class.Read},
		{"explain analyze explain foo", class.Read},
		{"explain analyze explain analyze", class.Unknown},
		{"explain analyze explain analyse drop a", class.Write},
		{"explain analyse explain analyze foo", class.Unknown},
		{"explain analyze explain analyze select 1", class.Read},
		{"explain analyze explain analyze commit", class.Read},
		{"explain analyze analyze", class.Unknown},
		{"explain analyze analyze drop a", class.Unknown},
		{"explain analyze show drop", class.Read},
	})
	ahead := strings.Repeat("explain analyze ", 12)
	checkRows(t, []row{{ahead, class.Unknown}, {ahead + "drop", class.Write}, {ahead + "select", class.Read}, {ahead + "explain", class.Read}, {ahead + "foo", class.Unknown}, {ahead + "select'", class.Bad}})
}

// P5.1, rule 4: what writes is a Write, whatever is behind.
func TestWrites(t *testing.T) {
	c := class.New()
	for _, word := range writeWords() {
		for _, h := range append(heads(), row{s: "foo"}, row{s: "1"}, row{s: "'a'"}, row{s: "analyze"}, row{s: "transaction"}, row{s: "work"}) {
			checkClass(t, c, word+" "+h.s, class.Write)
			checkClass(t, c, word+"("+h.s+")", class.Write)
		}
	}
}

// P5.1, rule 5: what selects, with each word that makes it a Write, at all places, and with these where they are no words.
func TestSelects(t *testing.T) {
	for _, word := range selectWords() {
		ahead := word
		if word == "WITH" {
			ahead = "WITH a AS (SELECT 1)"
		}
		checkEach(t, class.Read, ahead, ahead+" select 1", ahead+" 1;", ahead+" a.b")
		for _, inside := range insideWords() {
			for _, s := range cases(inside) {
				checkEach(t, class.Write, ahead+" "+s, ahead+" 1 "+s, ahead+" "+s+" a", ahead+"("+s+")", ahead+" a."+s, ahead+" 1 "+s+";", ahead+"/**/"+s+"/*+a*/")
				checkEach(t, class.Write, word+" "+s, word+" "+s+" select 1", word+" 1 "+s+" 1")
				checkEach(t, class.Read, ahead+" "+s+"s", ahead+" _"+s, ahead+" "+s+"1", ahead+" "+s[1:]+"x")
				for _, quote := range append(quotes(s), asides(s)...) {
					checkEach(t, class.Read, ahead+" "+quote, ahead+quote+" a", ahead+" 1,"+quote+";")
				}
			}
		}
		for _, other := range split("CREATE DROP ALTER TRUNCATE GRANT REVOKE CALL LOCK BEGIN START COMMIT ROLLBACK SET SHOW EXPLAIN ANALYZE TRANSACTION WORK GLOBAL FOR OUTFILE WITH VALUES TABLE FOO") {
			checkEach(t, class.Read, ahead+" "+other, ahead+" "+other+" a")
		}
	}
}

// P5.1, rule 5: WITH with and without the word SELECT.
func TestWith(t *testing.T) {
	for _, with := range cases("WITH") {
		checkEach(t, class.Unknown, with, with+";", with+" a", with+" a as (values (1))", with+" x as (table y) values (1)", with+" 'select'", with+` "select"`, with+" `select`", with+" /*select*/ a", with+" /*+select*/ a", with+" a --select", with+" selects", with+" a_select", with+" with", with+" create", with+" begin")
		for _, word := range cases("SELECT") {
			checkEach(t, class.Read, with+" "+word, with+" a as ("+word+" 1) table a", with+" a "+word, with+" "+word+" 'insert'", with+"("+word+")")
			checkEach(t, class.Write, with+" a as ("+word+" 1) delete from b", with+" a as (insert into b) "+word+" 1", with+" "+word+" 1 for share")
		}
		checkEach(t, class.Write, with+" insert", with+" x as (values (1)) update a set b = 1", with+" into")
	}
}

// P5.1, rule 6: BEGIN, and START TRANSACTION.
func TestBegin(t *testing.T) {
	for _, begin := range cases("BEGIN") {
		checkEach(t, class.Begin, begin, begin+";", begin+" ;;", begin+"/*a*/", begin+"/*+a*/;")
		for _, word := range append(cases("WORK"), cases("TRANSACTION")...) {
			checkEach(t, class.Begin, begin+" "+word, begin+" "+word+";", begin+"/**/"+word+"/*+a*/")
			checkEach(t, class.Unknown, begin+" "+word+" a", begin+" "+word+" work", begin+" "+word+" transaction", begin+" "+word+" 1", begin+" "+word+" ''", begin+" "+word+"s", begin+" "+word+",", begin+"("+word+")", begin+" a "+word)
		}
		for _, quote := range append(quotes("work"), quotes("TRANSACTION")...) {
			checkEach(t, class.Unknown, begin+quote, begin+" "+quote+";", begin+" work "+quote)
		}
		for _, aside := range append(asides("work work"), asides("a")...) {
			checkEach(t, class.Begin, begin+" "+aside, begin+" "+aside+"work", begin+" work "+aside)
		}
		checkEach(t, class.Unknown, begin+" a", begin+" 1", begin+" ''", begin+" begin", begin+" (", begin+" read only", begin+" work transaction", begin+" transaction work", begin+" select 1", begin+" insert", begin+" commit")
	}
	for _, start := range cases("START") {
		checkEach(t, class.Unknown, start, start+";", start+" work", start+" a", start+" a transaction", start+" 1", start+" 'transaction'", start+` "transaction"`, start+" `TRANSACTION`", start+" (transaction)", start+" slave", start+" start transaction", start+" transactions", start+" /*transaction*/", start+" /*+transaction*/ a", start+" work transaction")
		for _, word := range cases("TRANSACTION") {
			both := start + " " + word
			checkEach(t, class.Begin, both, both+";", both+" read only", both+" with consistent snapshot, read write", both+" work", both+" 1", both+" ''", both+" insert into a", both+" transaction", both+"'a'", start+"/*+a*/"+word, both+" commit")
		}
	}
}

// P5.1, rule 7: COMMIT and ROLLBACK.
func TestCommitAndRollback(t *testing.T) {
	for _, h := range []row{{"COMMIT", class.Commit}, {"ROLLBACK", class.Rollback}} {
		for _, end := range cases(h.s) {
			checkEach(t, h.want, end, end+";", end+" ;;", end+"/*a*/", end+"/*+a*/;")
			for _, word := range cases("WORK") {
				checkEach(t, h.want, end+" "+word, end+" "+word+";", end+"/**/"+word+"/*+a*/", end+" --a\n"+word)
				checkEach(t, class.Unknown, end+" "+word+" a", end+" "+word+" work", end+" "+word+" transaction", end+" "+word+" 1", end+" "+word+" and chain", end+" "+word+"s", end+"("+word+")", end+" a "+word)
			}
			for _, word := range cases("TRANSACTION") {
				checkEach(t, class.Unknown, end+" "+word, end+" "+word+";", end+" "+word+" work", end+" work "+word)
			}
			for _, quote := range append(quotes("work"), quotes("WORK")...) {
				checkEach(t, class.Unknown, end+quote, end+" "+quote+";", end+" work "+quote)
			}
			for _, aside := range append(asides("work work"), asides("a")...) {
				checkEach(t, h.want, end+" "+aside, end+" "+aside+"work", end+" work "+aside)
			}
			checkEach(t, class.Unknown, end+" a", end+" 1", end+" ''", end+" (", end+" and chain", end+" to a", end+" prepared 'a'", end+" commit", end+" rollback", end+" select 1")
		}
	}
}

// P5.1, rule 8: SET, with the words that aren't told as one as second, and as third token.
func TestSet(t *testing.T) {
	for _, set := range cases("SET") {
		checkEach(t, class.Set, set, set+";", set+" a", set+" a = 1", set+" 1", set+" ''", set+" = 1", set+" session a = 1", set+" transaction", set+" @@global.a = 1", set+" @autocommit", set+" set", set+" insert into", set+" /*+a*/")
		for _, name := range split("AUTOCOMMIT GLOBAL PERSIST") {
			for _, word := range cases(name) {
				checkEach(t, class.Unknown, set+" "+word, set+" "+word+" = 1", set+" "+word+";", set+"/*a*/"+word, set+" /*+a*/ "+word+" b", set+" "+word+" "+word, set+" --a\n"+word)
				checkEach(t, class.Set, set+" a "+word, set+" a = "+word, set+" ("+word+")", set+" @"+word, set+" session "+word+" = 1", set+" '' "+word, set+" "+word+"s", set+" _"+word, set+" "+word+"_only a", set+" "+word[1:])
				for _, quote := range quotes(word) {
					checkEach(t, class.Set, set+quote, set+" "+quote+" = 1", set+" "+quote+" "+word)
				}
				for _, aside := range asides(word) {
					checkEach(t, class.Set, set+" "+aside, set+" "+aside+" a = 1")
				}
			}
		}
	}
}

// P5.1: texts of MostText bytes, and of one more.
func TestHowLong(t *testing.T) {
	const most = api.MostText
	c := class.New()
	for _, r := range ordinary() {
		for _, pad := range []string{" ", ";", "\n"} {
			s := r.s + strings.Repeat(pad, most-len(r.s))
			checkClass(t, c, s, r.want)
			checkClass(t, c, s+pad, class.Bad)
			checkClass(t, c, " "+s, class.Bad)
		}
	}
	for _, hint := range []row{{"/*+primary*/", class.Primary}, {"/*+replica*/", class.Replica}} {
		for _, s := range []string{hint.s + strings.Repeat("x", most-len(hint.s)), strings.Repeat(" ", most-len(hint.s)) + hint.s, strings.Repeat(hint.s, most/len(hint.s)) + strings.Repeat(" ", most%len(hint.s))} {
			checkAsks(t, c, s, hint.want)
			checkClass(t, c, s, class.Unknown)
			checkAsks(t, c, s+" ", class.Anywhere)
			checkClass(t, c, s+" ", class.Bad)
		}
	}
	for _, n := range []int{most + 1, most + 2, 2 * most, 256, 65536, 1 << 22} {
		for _, s := range []string{"x", " ", ";", "'", "\x00", "explain analyze ", "/*+primary*/", "("} {
			text := strings.Repeat(s, n)
			checkClass(t, c, text, class.Bad)
			checkAsks(t, c, text, class.Anywhere)
		}
	}
	checkClass(t, c, strings.Repeat("(", most), class.Unknown)
	checkClass(t, c, strings.Repeat(";", most), class.Unknown)
	checkClass(t, c, "select"+strings.Repeat("(", most-6), class.Read)
}

// P5.1: where a statement asks to go: by the first Hint that is one of the two, as it stands there.
func TestAsks(t *testing.T) {
	c := class.New()
	for _, r := range []row{
		{"", class.Anywhere},
		{"select 1", class.Anywhere},
		{"/*+ primary */ select 1", class.Primary},
		{"/*+ replica */ select 1", class.Replica},
		{"/*+primary*/", class.Primary},
		{"/*+replica*/", class.Replica},
		{"/*+\t\r\n primary\n*/", class.Primary},
		{"select /*+ replica*/ 1", class.Replica},
		{"select 1 /*+replica */", class.Replica},
		{"select 1; /*+ primary */", class.Primary},
		{"select 1; /*+ primary */ select 2", class.Primary},
		{"insert into /*+ replica */ a", class.Replica},
		{"foo /*+ replica */", class.Replica},
		{"1 /*+ primary */", class.Primary},
		{"begin /*+ replica */", class.Replica},
		{"/*+ x */ /*+ replica */ /*+ primary */", class.Replica},
		{"/*+ primary */ a /*+ replica */", class.Primary},
		{"/*+ replica */ a /*+ primary */", class.Replica},
		{"/*+replica*//*+primary*/", class.Replica},
		{"/*+primary*//*+replica*/", class.Primary},
		{"/*+primary*//*+primary*/", class.Primary},
		{"/*+*//*+ PRIMARY *//*+ primaries */ a /*+ replica */", class.Replica},
		{"/*+ Replica */ select 1 /*+ primary */", class.Primary},
		{"/* replica */ /*+ primary */", class.Primary},
		{"--/*+ replica */\n/*+ primary */", class.Primary},
		{"'/*+ replica */' /*+ primary */", class.Primary},
	} {
		checkAsks(t, c, r.s, r.want)
		checkAsks(t, class.New(), r.s, r.want)
	}
}

// P5.1: Hints that are none of the two, and what is no Hint.
func TestAsksNothing(t *testing.T) {
	c := class.New()
	for _, word := range split("primary replica") {
		for _, hint := range append(cases(word)[1:], "", word+"s", "x"+word, word[1:], word+" x", "x "+word, word+","+word, word+" "+word, "'"+word+"'", "\""+word+"\"", "+"+word, "+ "+word, word+"*", "*"+word, "/*"+word, "/*+"+word, word+";", "--"+word, word+"\x00", word+"é", "\v"+word, word+"\f", "pri mary", "rep\nlica", "primaryreplica") {
			for _, s := range []string{"/*+" + hint + "*/", "/*+ " + hint + " */ select 1", "insert /*+\n" + hint + "\t*/ a"} {
				checkAsks(t, c, s, class.Anywhere)
				checkAsks(t, c, s+"/*+"+word+"*/", c.Asks("/*+"+word+"*/"))
			}
		}
		for _, s := range append(quotes(word), word, "select "+word, "/*"+word+"*/", "/* + "+word+" */", "/ *+ "+word+" */", "--/*+ "+word+" */", "#/*+ "+word+" */", "'/*+ "+word+" */'", "\"/*+ "+word+" */\"", "/* /*+ "+word+" */", "select 1 -- "+word) {
			checkAsks(t, c, s, class.Anywhere)
		}
		for _, s := range []string{"/*+ " + word + " */ '", "' /*+ " + word + " */", "/*+ " + word, "/*+ " + word + " * /", "/*+ " + word + " */ é", "é /*+ " + word + " */", "/*+ " + word + " */ /*", "/*+ " + word + " */ \x00"} {
			checkAsks(t, c, s, class.Anywhere)
			checkClass(t, c, s, class.Bad)
		}
	}
}

// P5.1: where a statement asks to go, and what it is, have nothing to do with each other.
func TestHintsChangeNoClass(t *testing.T) {
	c := class.New()
	for _, r := range ordinary() {
		l, _ := lex.Lex(r.s)
		for _, hint := range []row{{"primary", class.Primary}, {"replica", class.Replica}, {"insert into", class.Anywhere}, {";", class.Anywhere}, {"", class.Anywhere}, {"Primary", class.Anywhere}} {
			for i := range len(l) + 1 {
				s := lex.Write(slices.Insert(slices.Clone(l), i, lex.Token{Kind: lex.Hint, Text: hint.s}))
				checkClass(t, c, s, r.want)
				checkAsks(t, c, s, hint.want)
			}
		}
	}
}

// P5.2: how many words begin statements: of one that was asked nothing, and behind all that it is asked.
func TestKnown(t *testing.T) {
	if n := len(heads()); n != 25 {
		t.Fatalf("the tests know %d words", n)
	}
	if n := class.New().Known(); n != 25 {
		t.Errorf("Known: %d", n)
	}
	c := class.New()
	for _, s := range []string{"", "foo", "'", "select 1", "bar", "explain analyze baz", "/*+ primary */", "1"} {
		c.Class(s)
		c.Asks(s)
		if n := c.Known(); n != 25 {
			t.Errorf("Known behind %q: %d", s, n)
		}
	}
}

// P5.2: those words are just these: of all that the rules name, and of short ones, none else begins anything.
func TestKnownWords(t *testing.T) {
	c := class.New()
	known := map[string]bool{}
	for _, h := range heads() {
		known[h.s] = true
	}
	words := slices.Concat(innerWords(), split("FOO END UNLOCK USE ABORT SELECTS MERGE"))
	for i := 'A'; i <= 'Z'; i++ {
		for j := 'A'; j <= 'Z'; j++ {
			for k := 'A'; k <= 'Z'; k++ {
				words = append(words, string([]rune{i, j, k}))
			}
		}
	}
	for w := range known {
		words = append(words, w)
	}
	for _, w := range words {
		begins := false
		for _, more := range []string{"", " TRANSACTION", " SELECT"} {
			begins = begins || c.Class(w+more) != class.Unknown
		}
		if begins != known[w] {
			t.Errorf("%s begins statements: %v", w, begins)
		}
	}
}

// parts are what statements of few tokens are made of: what is written, and what reference takes for it.
func parts() [][2]string {
	var l [][2]string
	for _, word := range split("select With VALUES explain Analyze analyse show drop into update begin work transaction start commit rollback set global foo") {
		l = append(l, [2]string{word, " " + strings.ToUpper(word)})
	}
	for _, s := range []string{";", "'update'", `"work"`, "1", "("} {
		l = append(l, [2]string{s, " " + s})
	}
	for _, s := range []string{"/*+ into */", "/*;*/", "--update\n"} {
		l = append(l, [2]string{s, ""})
	}
	return l
}

// rules are those of the chapter, from 2 on, as what they say of tokens that each have a space ahead.
type rules struct {
	end, analyzes *regexp.Regexp
	forms         []*regexp.Regexp
	classes       []int
}

func newRules() *rules {
	r := &rules{end: regexp.MustCompile(`( ;)*$`), analyzes: regexp.MustCompile(`^ EXPLAIN ANALY[ZS]E\b`)}
	for _, f := range []row{
		{`^$|^ [^A-Z_]| ;`, class.Unknown},
		{`^ (SHOW|DESCRIBE|DESC|EXPLAIN)\b`, class.Read},
		{`^ (INSERT|UPDATE|DELETE|REPLACE|CREATE|DROP|ALTER|TRUNCATE|GRANT|REVOKE|CALL|LOCK)\b`, class.Write},
		{`^ (SELECT|VALUES|TABLE|WITH)\b.* (INSERT|UPDATE|DELETE|REPLACE|INTO|SHARE)\b`, class.Write},
		{`^ WITH\b.* SELECT\b`, class.Read},
		{`^ (SELECT|VALUES|TABLE)\b`, class.Read},
		{`^ BEGIN( WORK| TRANSACTION)?$|^ START TRANSACTION\b`, class.Begin},
		{`^ COMMIT( WORK)?$`, class.Commit},
		{`^ ROLLBACK( WORK)?$`, class.Rollback},
		{`^ SET (AUTOCOMMIT|GLOBAL|PERSIST)\b`, class.Unknown},
		{`^ SET\b`, class.Set},
		{``, class.Unknown},
	} {
		r.forms = append(r.forms, regexp.MustCompile(f.s))
		r.classes = append(r.classes, f.want)
	}
	return r
}

// class tells a statement's class in another way.
func (r *rules) class(s string) int {
	s = r.end.ReplaceAllString(s, "")
	analyzes := false
	for r.analyzes.MatchString(s) {
		s, analyzes = r.analyzes.ReplaceAllString(s, ""), true
	}
	for i, form := range r.forms {
		if !form.MatchString(s) {
			continue
		}
		if n := r.classes[i]; !analyzes || n == class.Write || n == class.Unknown {
			return n
		}
		return class.Read
	}
	return class.Bad
}

// checkParts: what the parts are when they stand one behind another; the text is told.
func checkParts(t *testing.T, c *class.Classer, r *rules, l [][2]string) string {
	t.Helper()
	var s, read string
	for _, p := range l {
		s, read = s+p[0]+" ", read+p[1]
	}
	checkClass(t, c, s, r.class(read))
	return s
}

// checkReads: P5.3: a Read has no word that writes at its head, nor, by rule 5, among its tokens.
func checkReads(t *testing.T, c *class.Classer, s string) {
	t.Helper()
	if c.Class(s) != class.Read {
		return
	}
	l, _ := lex.Lex(s)
	l = slices.DeleteFunc(l, func(x lex.Token) bool { return x.Kind == lex.Hint })
	if len(l) == 0 || l[0].Kind != lex.Word || slices.Contains(writeWords(), l[0].Text) {
		t.Errorf("%q is a Read", s)
		return
	}
	if !slices.Contains(selectWords(), l[0].Text) {
		return
	}
	for _, x := range l {
		if x.Kind == lex.Word && slices.Contains(insideWords(), x.Text) {
			t.Errorf("%q, with %s, is a Read", s, x.Text)
		}
	}
}

// P5.1, P5.3: all statements of few tokens, held against the rules in another form.
func TestFewTokens(t *testing.T) {
	c, r := class.New(), newRules()
	all := parts()
	checkParts(t, c, r, nil)
	for _, one := range all {
		checkParts(t, c, r, [][2]string{one})
		for _, two := range all {
			checkParts(t, c, r, [][2]string{one, two})
			for _, three := range all {
				checkReads(t, c, checkParts(t, c, r, [][2]string{one, two, three}))
			}
		}
	}
}

// P5.1, P5.3: longer statements, of parts that are drawn.
func TestManyTokens(t *testing.T) {
	c, r := class.New(), newRules()
	all := parts()
	draws := rand.New(rand.NewSource(5))
	for range 100000 {
		l := make([][2]string, 4+draws.Intn(9))
		for i := range l {
			l[i] = all[draws.Intn(len(all))]
		}
		checkReads(t, c, checkParts(t, c, r, l))
	}
}

// P5.3: remarks and blanks, ahead, between and behind, change neither class nor where it asks to go.
func TestRemarksAndBlanks(t *testing.T) {
	c := class.New()
	for _, gap := range []string{" ", "\t\r\n ", "/**/", "/* ; */", "/*insert*/", "/*'*/", "--;\n", "--into'\n", "#update /*+\n", " --\n/*;*/\t#\n", "/* + replica */", "--/*+primary*/\n"} {
		for _, r := range ordinary() {
			for _, hint := range []string{"", "/*+ primary */ ", "/*+ replica */ "} {
				l, _ := lex.Lex(hint + r.s)
				var s strings.Builder
				for _, x := range l {
					s.WriteString(gap + " " + lex.Write([]lex.Token{x}) + " ")
				}
				s.WriteString(gap)
				if s.Len() <= api.MostText {
					checkClass(t, c, s.String(), r.want)
					checkAsks(t, c, s.String(), c.Asks(hint))
				}
			}
		}
	}
}

// P5.3: letters' greatness changes nothing outside of quotes.
func TestGreatness(t *testing.T) {
	c := class.New()
	for _, r := range ordinary() {
		for _, s := range cases(r.s) {
			checkClass(t, c, s, r.want)
			checkAsks(t, c, s, class.Anywhere)
			checkAsks(t, c, "/*+ primary */"+s, class.Primary)
			checkAsks(t, c, s+"/*+ replica */", class.Replica)
		}
	}
	for _, s := range append(quotes("insert"), quotes("INSERT")...) {
		checkClass(t, c, "select "+s, class.Read)
		checkClass(t, c, "SELECT "+s, class.Read)
	}
}

// P5.1: one that several ask at a time, from the first time on, answers each as if it were alone.
func TestManyAtATime(t *testing.T) {
	const many = 16
	rows := append(ordinary(), heads()...)
	for range 100 {
		c := class.New()
		ready := make(chan bool)
		var all sync.WaitGroup
		for i := range many {
			all.Go(func() {
				<-ready
				if i%4 == 0 && c.Known() != 25 {
					t.Error("Known isn't 25")
				}
				for j := range rows {
					r := rows[(i*7+j)%len(rows)]
					checkClass(t, c, r.s, r.want)
					checkAsks(t, c, r.s+" /*+ replica */", class.Replica)
				}
				if n := c.Known(); n != 25 {
					t.Errorf("Known: %d", n)
				}
			})
		}
		close(ready)
		all.Wait()
	}
}

// R1: all short texts of bytes that begin and end something are answered, by a class and a place that there are; Bad is just what lex refuses.
func TestShortTexts(t *testing.T) {
	c := class.New()
	texts := []string{""}
	for range 4 {
		var next []string
		for _, s := range texts {
			for _, b := range []string{"a", "1", "'", "\"", "`", "/", "*", "+", "-", "#", ";", " ", "\n", "\x00", "\xff"} {
				next = append(next, s+b)
			}
		}
		texts = next
		for _, s := range texts {
			_, e := lex.Lex(s)
			want := class.Unknown
			if e != api.OK {
				want = class.Bad
			}
			checkClass(t, c, s, want)
			checkAsks(t, c, s, class.Anywhere)
			checkAsks(t, c, "/*+primary*/"+s, asksIf(e == api.OK, class.Primary))
		}
	}
}

// asksIf is where a statement asks to go, that isn't heard if it is Bad.
func asksIf(heard bool, place int) int {
	if heard {
		return place
	}
	return class.Anywhere
}

// P5.1, R1: each byte within quotes, and outside of them.
func TestEachByte(t *testing.T) {
	c := class.New()
	for i := range 256 {
		s := string([]byte{byte(i)})
		if s != "'" {
			checkClass(t, c, "select '"+s+"'", class.Read)
			checkAsks(t, c, "select '"+s+"' /*+ replica */", class.Replica)
		}
		_, e := lex.Lex(s)
		if n := c.Class("drop " + s); (n == class.Write) != (e == api.OK) || (n == class.Bad) != (e != api.OK) {
			t.Errorf("Class of drop and %q: %d", s, n)
		}
	}
}

// R3, R4, R5: nothing is kept of what was asked ahead, nor shared by two: the same is answered in each order.
func TestNothingIsKept(t *testing.T) {
	rows := append(ordinary(), heads()...)
	rows = append(rows, row{"'", class.Bad}, row{"/*+ primary */ é", class.Bad}, row{strings.Repeat("x", api.MostText+1), class.Bad}, row{"", class.Unknown})
	a, b := class.New(), class.New()
	for _, r := range rows {
		checkClass(t, a, r.s, r.want)
		for _, other := range rows {
			checkClass(t, b, other.s, other.want)
			checkAsks(t, b, "/*+replica*/"+other.s, asksIf(other.want != class.Bad, class.Replica))
			checkClass(t, b, r.s, r.want)
		}
	}
	if a == b {
		t.Error("New told one twice")
	}
}
