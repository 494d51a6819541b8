package tally_test

import (
	"fmt"
	"math"
	"math/rand"
	"runtime"
	"slices"
	"strconv"
	"strings"
	"sync"
	"testing"

	"signalman/tally"
)

const (
	least = math.MinInt64
	most  = math.MaxInt64
)

// checkList tells where two lists first differ alone, as they may be long.
func checkList(t *testing.T, what string, l, want []string) {
	t.Helper()
	for i := range max(len(l), len(want)) {
		if i >= len(l) || i >= len(want) || l[i] != want[i] {
			t.Errorf("%s: %d of them, not %d; from %d on %.80q, not %.80q", what, len(l), len(want), i, l[min(i, len(l)):min(i+3, len(l))], want[min(i, len(want)):min(i+3, len(want))])
			return
		}
	}
}

func checkNames(t *testing.T, c *tally.Tally, want ...string) {
	t.Helper()
	checkList(t, "Names", c.Names(), want)
}

func checkLines(t *testing.T, c *tally.Tally, want ...string) {
	t.Helper()
	checkList(t, "Lines", c.Lines(), want)
}

// checkCount: there is such a name, with that count.
func checkCount(t *testing.T, c *tally.Tally, name string, want int64) {
	t.Helper()
	if n, is := c.Count(name); n != want || !is {
		t.Errorf("Count(%.80q): %d, %v, not %d", name, n, is, want)
	}
}

// checkNone: there is no such name, and no call makes it.
func checkNone(t *testing.T, c *tally.Tally, name string) {
	t.Helper()
	names, lines := c.Names(), c.Lines()
	for range 2 {
		if n, is := c.Count(name); n != 0 || is {
			t.Errorf("Count(%.80q): %d, %v, but there is no such name", name, n, is)
		}
		for _, n := range ends() {
			if c.Add(name, n) {
				t.Errorf("Add(%.80q, %d), but there is no such name", name, n)
			}
			for _, now := range ends() {
				if c.Swap(name, n, now) {
					t.Errorf("Swap(%.80q, %d, %d), but there is no such name", name, n, now)
				}
			}
		}
	}
	checkNames(t, c, names...)
	checkLines(t, c, lines...)
}

func mustAdd(t *testing.T, c *tally.Tally, name string, n int64) {
	t.Helper()
	if !c.Add(name, n) {
		t.Errorf("Add(%.80q, %d): false", name, n)
	}
}

func checkSwap(t *testing.T, c *tally.Tally, name string, old, now int64, want bool) {
	t.Helper()
	if is := c.Swap(name, old, now); is != want {
		t.Errorf("Swap(%.80q, %d, %d): %v", name, old, now, is)
	}
}

// ends are counts at both ends of int64, about 0, and others between them.
func ends() []int64 {
	return []int64{0, 1, -1, 2, -2, 10, -10, 255, 1 << 31, -1 << 31, 1<<32 + 1, 1 << 62, -1 << 62, most - 1, most, least + 1, least}
}

// oddNames all differ, though some are written much alike.
func oddNames() []string {
	return []string{
		"", " ", "  ", "\t", "\n", "\r\n", "\x00", "\x00\x00", "0", "00", "1", "-1", "+1", "9223372036854775808",
		"a", "A", "a ", " a", "a 1", "a\n", "a\nb", "a\x00", "ab", "aB", "Ab", "AB", "b", "answers", "Answers", "ANSWERS",
		"\xff", "\xfe", "\xff\xff", "\xc3", "\xa9", "\xc3\xa9", "e\u0301", "\u00c9", "\ufffd", "\xed\xa0\x80", "a\xff", "s", "S", "\u017f", "k", "K", "\u212a", "\u00df", "ss", "SS", "\u65e5\u672c",
		strings.Repeat("x", 300), strings.Repeat("x", 301), strings.Repeat("x", 300) + "y",
	}
}

// manyNames are so many that all differ.
func manyNames(n int) []string {
	l := make([]string, n)
	for i := range l {
		l[i] = "name " + strconv.Itoa(i*7919%n)
	}
	return l
}

func line(name string, n int64) string { return fmt.Sprintf("%s %d", name, n) }

// P7.1, P7.2, P7.3: an ordinary tally, and the document's example.
func TestTally(t *testing.T) {
	c := tally.New("a", "b")
	checkNames(t, c, "a", "b")
	checkLines(t, c)
	mustAdd(t, c, "b", 2)
	mustAdd(t, c, "b", 1)
	checkLines(t, c, "b 3")
	checkCount(t, c, "a", 0)
	checkCount(t, c, "b", 3)
	checkSwap(t, c, "a", 0, 12, true)
	checkLines(t, c, "a 12", "b 3")
	checkNames(t, c, "a", "b")
}

// P7.1: a tally of no name.
func TestNoName(t *testing.T) {
	for i, c := range []*tally.Tally{tally.New(), tally.New(nil...), tally.New([]string{}...)} {
		if c == nil {
			t.Fatalf("case %d: New: nil", i)
		}
		checkNames(t, c)
		checkLines(t, c)
		for _, name := range oddNames() {
			checkNone(t, c, name)
		}
	}
}

// P7.1, P7.2, P7.3: a tally of one name, whichever; there is no other one.
func TestOneName(t *testing.T) {
	for _, name := range oddNames() {
		c := tally.New(name)
		checkNames(t, c, name)
		checkCount(t, c, name, 0)
		checkLines(t, c)
		mustAdd(t, c, name, -7)
		for _, other := range oddNames() {
			if other != name {
				checkNone(t, c, other)
			}
		}
		checkCount(t, c, name, -7)
		checkSwap(t, c, name, -7, 8, true)
		checkLines(t, c, name+" 8")
		checkNames(t, c, name)
	}
}

// P7.1, P7.3: odd names are told apart, and told as they were given, in that order.
func TestOddNames(t *testing.T) {
	names := oddNames()
	for range 2 {
		c := tally.New(names...)
		checkNames(t, c, names...)
		var lines []string
		for i, name := range names {
			checkCount(t, c, name, 0)
			mustAdd(t, c, name, int64(i)+1)
			lines = append(lines, name+" "+strconv.Itoa(i+1))
			checkLines(t, c, lines...)
		}
		for i, name := range names {
			checkCount(t, c, name, int64(i)+1)
		}
		checkNames(t, c, names...)
		slices.Reverse(names)
	}
}

// P7.1: a name that comes again counts for nothing: it stands where it came first, and has one count.
func TestAgain(t *testing.T) {
	for _, x := range []struct{ given, want string }{
		{"a a", "a"},
		{"a a a a a", "a"},
		{"a a b", "a b"},
		{"a b a", "a b"},
		{"b a b", "b a"},
		{"a b b", "a b"},
		{"a b a b", "a b"},
		{"b a a b", "b a"},
		{"c a b a c c b", "c a b"},
		{"a b c c b a", "a b c"},
		{"a A a A", "a A"},
	} {
		c := tally.New(strings.Fields(x.given)...)
		want := strings.Fields(x.want)
		checkNames(t, c, want...)
		var lines []string
		for i, name := range want {
			checkCount(t, c, name, 0)
			mustAdd(t, c, name, int64(i)+5)
			checkCount(t, c, name, int64(i)+5)
			lines = append(lines, line(name, int64(i)+5))
		}
		checkLines(t, c, lines...)
		checkNone(t, c, "d")
	}
	checkNames(t, tally.New("", "a", "", "", "b", ""), "", "a", "b")
	checkNames(t, tally.New("a", "", "a", ""), "a", "")
	names := oddNames()
	checkNames(t, tally.New(slices.Concat(names, names)...), names...)
	back := slices.Clone(names)
	slices.Reverse(back)
	checkNames(t, tally.New(slices.Concat(names, back, names[3:], back[5:])...), names...)
	checkNames(t, tally.New(slices.Concat(back[:4], names)...), slices.Concat(back[:4], names[:len(names)-4])...)
}

// P7.1: all lists of few names, against the rule in another form: a name stays if it isn't among those ahead of it.
func TestEachList(t *testing.T) {
	lists := [][]string{nil}
	for range 6 {
		var next [][]string
		for _, l := range lists {
			for _, name := range []string{"b", "", "a", "B"} {
				next = append(next, append(slices.Clone(l), name))
			}
		}
		lists = next
		for _, l := range lists {
			var want []string
			for i, name := range l {
				if !slices.Contains(l[:i], name) {
					want = append(want, name)
				}
			}
			c := tally.New(l...)
			checkNames(t, c, want...)
			for i, name := range want {
				c.Add(name, int64(i)-1)
			}
			for i, name := range want {
				checkCount(t, c, name, int64(i)-1)
			}
		}
	}
}

// P7.1, P7.2, P7.3, R1: a tally of many names, that come often, is soon made and asked.
func TestManyNames(t *testing.T) {
	names := manyNames(100000)
	c := tally.New(slices.Concat(names, names, names)...)
	checkNames(t, c, names...)
	checkLines(t, c)
	var lines []string
	for i, name := range names {
		n := int64(i%5) - 2
		mustAdd(t, c, name, n)
		if n != 0 {
			lines = append(lines, line(name, n))
		}
	}
	checkLines(t, c, lines...)
	for i, name := range names {
		checkSwap(t, c, name, int64(i%5)-2, int64(i), true)
		checkCount(t, c, name, int64(i))
	}
	checkNone(t, c, "name -1")
	checkNone(t, c, "")
	again := tally.New(slices.Repeat([]string{"b", "a"}, 300000)...)
	checkNames(t, again, "b", "a")
}

// P7.1, R1: long names.
func TestLongNames(t *testing.T) {
	long := strings.Repeat("long ", 1<<20)
	c := tally.New(long, long+"a", long, long+"b")
	mustAdd(t, c, long+"b", 3)
	mustAdd(t, c, long, 2)
	checkNames(t, c, long, long+"a", long+"b")
	checkLines(t, c, long+" 2", long+"b 3")
	checkNone(t, c, long[1:])
}

// P7.2: what is added: 0, less than 0, and both ends of int64, from each of them; the sum goes round. It is no other name's.
func TestAdd(t *testing.T) {
	for _, a := range ends() {
		for _, b := range ends() {
			c := tally.New("x", "y", "z")
			checkSwap(t, c, "x", 0, 4, true)
			mustAdd(t, c, "y", a)
			checkCount(t, c, "y", a)
			mustAdd(t, c, "y", b)
			checkCount(t, c, "y", int64(uint64(a)+uint64(b)))
			mustAdd(t, c, "y", b)
			checkCount(t, c, "y", int64(uint64(a)+2*uint64(b)))
			checkCount(t, c, "x", 4)
			checkCount(t, c, "z", 0)
		}
	}
	for _, x := range []struct{ a, b, want int64 }{
		{most, 1, least},
		{least, -1, most},
		{most, most, -2},
		{least, least, 0},
		{most, least, -1},
		{least, most, -1},
		{-5, 3, -2},
		{-5, 5, 0},
		{5, 0, 5},
		{0, 0, 0},
	} {
		c := tally.New("")
		mustAdd(t, c, "", x.a)
		mustAdd(t, c, "", x.b)
		checkCount(t, c, "", x.want)
	}
}

// P7.2: Swap from the count that stands there, and from each other one, to each: to the same, to 0 and to both ends among them.
func TestSwap(t *testing.T) {
	for _, is := range ends() {
		for _, old := range ends() {
			for _, now := range ends() {
				c := tally.New("x", "y", "z")
				mustAdd(t, c, "y", is)
				mustAdd(t, c, "z", 9)
				checkSwap(t, c, "y", old, now, old == is)
				if old == is {
					checkCount(t, c, "y", now)
					checkSwap(t, c, "y", now, is, true)
				}
				checkCount(t, c, "y", is)
				checkCount(t, c, "x", 0)
				checkCount(t, c, "z", 9)
			}
		}
	}
}

// P7.2: of several Swaps from one count, one behind another, just the first does.
func TestSwapAgain(t *testing.T) {
	c := tally.New("a")
	checkSwap(t, c, "a", 0, 1, true)
	checkSwap(t, c, "a", 0, 2, false)
	checkSwap(t, c, "a", 0, 1, false)
	checkSwap(t, c, "a", 0, 0, false)
	checkCount(t, c, "a", 1)
	checkSwap(t, c, "a", 1, 1, true)
	checkSwap(t, c, "a", 1, 1, true)
	checkSwap(t, c, "a", 1, 0, true)
	checkSwap(t, c, "a", 0, 2, true)
	checkCount(t, c, "a", 2)
	mustAdd(t, c, "a", -2)
	checkSwap(t, c, "a", 0, least, true)
	checkSwap(t, c, "a", most, 0, false)
	checkCount(t, c, "a", least)
}

// P7.1, P7.2: names that there are not, near to such as there are: nothing is changed.
func TestNamesThatAreNone(t *testing.T) {
	c := tally.New("ab", "Cd", " ", "1")
	mustAdd(t, c, "ab", 3)
	mustAdd(t, c, "1", -4)
	for _, name := range []string{"", "a", "b", "abc", "AB", "Ab", "ab ", " ab", "ab 3", "cd", "CD", "  ", "\x00", "\n", "0", "2", "1 -4", "01", "\xff", "ab\x00"} {
		checkNone(t, c, name)
	}
	checkCount(t, c, "ab", 3)
	checkCount(t, c, "Cd", 0)
	checkCount(t, c, "1", -4)
	checkLines(t, c, "ab 3", "1 -4")
}

// P7.3: Lines where all counts are 0, where some are, and where one has come back to 0, in each way; in the names' order, whatever that of the calls.
func TestLines(t *testing.T) {
	c := tally.New("c", "a", "d", "b")
	checkLines(t, c)
	mustAdd(t, c, "a", 0)
	checkSwap(t, c, "b", 0, 0, true)
	checkLines(t, c)
	mustAdd(t, c, "b", 5)
	mustAdd(t, c, "c", -5)
	checkLines(t, c, "c -5", "b 5")
	mustAdd(t, c, "d", 10)
	checkLines(t, c, "c -5", "d 10", "b 5")
	mustAdd(t, c, "a", 1)
	checkLines(t, c, "c -5", "a 1", "d 10", "b 5")
	mustAdd(t, c, "c", 5)
	checkLines(t, c, "a 1", "d 10", "b 5")
	checkSwap(t, c, "d", 10, 0, true)
	checkLines(t, c, "a 1", "b 5")
	mustAdd(t, c, "b", most)
	mustAdd(t, c, "b", most)
	mustAdd(t, c, "b", -3)
	checkLines(t, c, "a 1")
	checkSwap(t, c, "a", 1, 0, true)
	checkLines(t, c)
	mustAdd(t, c, "d", 1)
	checkLines(t, c, "d 1")
	checkNames(t, c, "c", "a", "d", "b")
}

// P7.3: counts are told by ten, with a mark where they are less than 0, without anything ahead of their digits.
func TestLinesByTen(t *testing.T) {
	for _, x := range []struct {
		n    int64
		want string
	}{
		{1, "1"}, {-1, "-1"}, {7, "7"}, {9, "9"}, {10, "10"}, {16, "16"}, {-16, "-16"}, {100, "100"}, {1000000, "1000000"}, {255, "255"}, {4294967296, "4294967296"},
		{most, "9223372036854775807"}, {most - 1, "9223372036854775806"}, {least, "-9223372036854775808"}, {least + 1, "-9223372036854775807"},
	} {
		c := tally.New("ahead", "n", "", "behind")
		mustAdd(t, c, "n", x.n)
		checkLines(t, c, "n "+x.want)
		mustAdd(t, c, "", x.n)
		checkLines(t, c, "n "+x.want, " "+x.want)
	}
	c := tally.New(oddNames()...)
	for _, n := range ends() {
		var want []string
		for _, name := range oddNames() {
			was, _ := c.Count(name)
			checkSwap(t, c, name, was, n, true)
			if n != 0 {
				want = append(want, line(name, n))
			}
		}
		checkLines(t, c, want...)
	}
}

// R5: two tallies of the same names: neither changes with the other, whichever was made or asked first.
func TestTalliesAreApart(t *testing.T) {
	names := []string{"a", "b", "a", ""}
	first, second := tally.New(names...), tally.New(names...)
	if first == second {
		t.Fatal("New told one twice")
	}
	mustAdd(t, first, "a", 4)
	third := tally.New(names...)
	checkLines(t, second)
	checkLines(t, third)
	mustAdd(t, second, "b", 5)
	checkSwap(t, third, "", 0, 6, true)
	checkLines(t, first, "a 4")
	checkLines(t, second, "b 5")
	checkLines(t, third, " 6")
	other := tally.New("b", "c", "a")
	checkNames(t, other, "b", "c", "a")
	checkLines(t, other)
	mustAdd(t, other, "c", 1)
	checkNone(t, first, "c")
	checkNames(t, first, "a", "b", "")
	checkLines(t, first, "a 4")
	none := tally.New()
	checkNone(t, none, "a")
}

// R3: the list that New was given is left as it is, and may be changed afterwards: ahead of the first call, and behind it.
func TestGivenIsNotShared(t *testing.T) {
	for _, asked := range []bool{false, true} {
		given := []string{"a", "b", "a", "c", "b", "d", "behind", "behind"}
		was := slices.Clone(given)
		c := tally.New(given[:6]...)
		if asked {
			mustAdd(t, c, "b", 0)
			checkNames(t, c, "a", "b", "c", "d")
			checkLines(t, c)
		}
		if !slices.Equal(given, was) {
			t.Errorf("the names were changed: %q", given)
		}
		for i := range given {
			given[i] = "z"
		}
		checkNames(t, c, "a", "b", "c", "d")
		checkNone(t, c, "z")
		mustAdd(t, c, "c", 2)
		checkLines(t, c, "c 2")
		for i, s := range given {
			if s != "z" {
				t.Errorf("name %d, set by the caller, was changed: %q", i, s)
			}
		}
	}
}

// R3: what Names and Lines answer may be changed, and grown, by the caller: the tally, and other answers, stay as they are.
func TestAnswersAreNotShared(t *testing.T) {
	for _, given := range [][]string{{"a", "b", "c"}, {"a", "b", "a", "c", "c", "b"}} {
		c := tally.New(given...)
		mustAdd(t, c, "a", 1)
		mustAdd(t, c, "c", 3)
		names, again := c.Names(), c.Names()
		lines, lines2 := c.Lines(), c.Lines()
		for i := range names {
			names[i] = "z"
		}
		for i := range lines {
			lines[i] = "z"
		}
		_ = append(names, "y", "y", "y", "y")
		_ = append(names[:0], "x", "x", "x")
		_ = append(lines, "y", "y", "y", "y")
		_ = append(lines[:0], "x", "x")
		if !slices.Equal(again, []string{"a", "b", "c"}) || !slices.Equal(lines2, []string{"a 1", "c 3"}) {
			t.Errorf("two answers share: %q, %q", again, lines2)
		}
		checkNames(t, c, "a", "b", "c")
		checkLines(t, c, "a 1", "c 3")
		checkNone(t, c, "x")
		checkNone(t, c, "z")
		mustAdd(t, c, "b", 2)
		if !slices.Equal(again, []string{"a", "b", "c"}) || !slices.Equal(lines2, []string{"a 1", "c 3"}) {
			t.Errorf("an answer changes with the tally: %q, %q", again, lines2)
		}
		checkLines(t, c, "a 1", "b 2", "c 3")
	}
}

// model is a tally in another form: names are sought one by one, and counts are numbers without a sign, that go round by themselves.
type model struct {
	names  []string
	counts []uint64
}

func newModel(names []string) *model {
	m := &model{}
	for _, name := range names {
		if m.at(name) < 0 {
			m.names, m.counts = append(m.names, name), append(m.counts, 0)
		}
	}
	return m
}

func (m *model) at(name string) int { return slices.Index(m.names, name) }

func (m *model) add(name string, n int64) bool {
	i := m.at(name)
	if i >= 0 {
		m.counts[i] += uint64(n)
	}
	return i >= 0
}

func (m *model) swap(name string, old, now int64) bool {
	i := m.at(name)
	if i < 0 || m.counts[i] != uint64(old) {
		return false
	}
	m.counts[i] = uint64(now)
	return true
}

func (m *model) count(name string) (int64, bool) {
	if i := m.at(name); i >= 0 {
		return int64(m.counts[i]), true
	}
	return 0, false
}

func (m *model) lines() []string {
	var l []string
	for i, n := range m.counts {
		if n != 0 {
			l = append(l, line(m.names[i], int64(n)))
		}
	}
	return l
}

// P7.1, P7.2, P7.3: tallies whose names and calls are drawn, against the model, call by call.
func TestDrawnCalls(t *testing.T) {
	draws := rand.New(rand.NewSource(7))
	words := append(oddNames(), "not", "there")
	for range 300 {
		names := make([]string, draws.Intn(12))
		for i := range names {
			names[i] = words[draws.Intn(len(words))]
		}
		c, m := tally.New(names...), newModel(names)
		asked := append(slices.Clone(names), words[draws.Intn(len(words))])
		for range 100 {
			name := asked[draws.Intn(len(asked))]
			n := ends()[draws.Intn(len(ends()))]
			is, want := false, false
			switch draws.Intn(3) {
			case 0:
				is, want = c.Add(name, n), m.add(name, n)
			case 1:
				is, want = c.Swap(name, n, 3), m.swap(name, n, 3)
			case 2:
				old, _ := m.count(name)
				is, want = c.Swap(name, old, n), m.swap(name, old, n)
			}
			n, there := c.Count(name)
			wantN, wantThere := m.count(name)
			if is != want || n != wantN || there != wantThere {
				t.Fatalf("%q: %v, not %v; Count(%q): %d, %v, not %d, %v", names, is, want, name, n, there, wantN, wantThere)
			}
			checkLines(t, c, m.lines()...)
		}
		checkNames(t, c, m.names...)
	}
}

// R4: the same calls, in the same order, answer the same, each time.
func TestTheSameAgain(t *testing.T) {
	var first []string
	for i := range 200 {
		c := tally.New(oddNames()...)
		for j, name := range oddNames() {
			c.Add(name, int64(j%4)-1)
		}
		all := append(c.Names(), c.Lines()...)
		if i == 0 {
			first = all
		}
		if !slices.Equal(all, first) || !slices.Equal(append(c.Names(), c.Lines()...), first) {
			t.Fatalf("%q, not %q", all, first)
		}
	}
}

// addedIn tells the Lines behind Adds in an order.
func addedIn(order []int, names []string, counts []int64) []string {
	c := tally.New("a", "b", "c")
	for _, i := range order {
		c.Add(names[i], counts[i])
	}
	return c.Lines()
}

// orders are all orders of so many.
func orders(n int) [][]int {
	if n == 0 {
		return [][]int{nil}
	}
	var all [][]int
	for _, l := range orders(n - 1) {
		for at := range n {
			all = append(all, slices.Insert(slices.Clone(l), at, n-1))
		}
	}
	return all
}

// P7.4: the order of what is added changes nothing, where sums go round too.
func TestOrderOfAdds(t *testing.T) {
	names := strings.Fields("a b a none a b a")
	counts := []int64{most, -3, most, 5, least, 3, 12}
	for _, order := range orders(len(names)) {
		if l := addedIn(order, names, counts); !slices.Equal(l, []string{"a -9223372036854775798"}) {
			t.Fatalf("%v: %q", order, l)
		}
	}
}

// atATime runs what many do at a time, and waits for them all.
func atATime(many int, do func(i int)) {
	ready := make(chan bool)
	var all sync.WaitGroup
	for i := range many {
		all.Go(func() {
			<-ready
			do(i)
		})
	}
	close(ready)
	all.Wait()
}

// P7.4: however many add at a time, what they add is the sum of all.
func TestAddAtATime(t *testing.T) {
	const each = 5000
	for _, many := range []int{1, 2, 3, 8, 64} {
		c := tally.New("up", "down", "both", "round", "rest")
		atATime(many, func(i int) {
			for j := range each {
				c.Add("up", int64(i))
				c.Add("down", -1)
				c.Add("both", int64(1-j%2*2))
				c.Add("round", most)
				c.Add("none", 1)
			}
		})
		n := int64(many)
		checkCount(t, c, "up", n*(n-1)/2*each)
		checkCount(t, c, "down", -n*each)
		checkCount(t, c, "both", 0)
		checkCount(t, c, "round", int64(uint64(most)*uint64(n*each)))
		checkCount(t, c, "rest", 0)
		checkNone(t, c, "none")
	}
}

// P7.4: of several that swap from one count just one does, and it is its count that stands there.
func TestSwapAtATime(t *testing.T) {
	const many = 16
	for _, from := range []int64{0, 5, -5, most, least} {
		for range 300 {
			c := tally.New("a", "b")
			checkSwap(t, c, "a", 0, from, true)
			var won [many]bool
			atATime(many, func(i int) { won[i] = c.Swap("a", from, int64(i+100)) })
			l := slices.Collect(func(yield func(int) bool) {
				for i, is := range won {
					if is && !yield(i) {
						return
					}
				}
			})
			if len(l) != 1 {
				t.Fatalf("from %d: %d did", from, len(l))
			}
			checkCount(t, c, "a", int64(l[0]+100))
			checkLines(t, c, line("a", int64(l[0]+100)))
		}
	}
}

// P7.4: of several that swap from one count on to the next one, just one does, at each count on the way.
func TestSwapOnAtATime(t *testing.T) {
	const many, top = 8, 30000
	c := tally.New("a")
	var won [many][]int64
	atATime(many, func(i int) {
		for {
			n, _ := c.Count("a")
			if n == top {
				return
			}
			if c.Swap("a", n, n+1) {
				won[i] = append(won[i], n)
			}
		}
	})
	all := slices.Concat(won[:]...)
	slices.Sort(all)
	for i, n := range all {
		if n != int64(i) {
			t.Fatalf("from %d, where %d was next", n, i)
		}
	}
	if len(all) != top {
		t.Errorf("%d did, not %d", len(all), top)
	}
}

// P7.4: each of many counts is swapped by just one of those that go through them all.
func TestSwapManyAtATime(t *testing.T) {
	const many = 8
	names := manyNames(5000)
	c := tally.New(names...)
	var won [many]int64
	atATime(many, func(i int) {
		for _, name := range names {
			if c.Swap(name, 0, int64(i+1)) {
				won[i]++
			}
		}
	})
	var sum, want, all int64
	for i, n := range won {
		want += n * int64(i+1)
		all += n
	}
	for _, name := range names {
		n, _ := c.Count(name)
		sum += n
	}
	if all != int64(len(names)) || sum != want {
		t.Errorf("%d of %d did; the sum is %d, not %d", all, len(names), sum, want)
	}
}

// raise adds 1 by a Swap, as often as it takes.
func raise(c *tally.Tally, name string) {
	for {
		n, _ := c.Count(name)
		if c.Swap(name, n, n+1) {
			return
		}
	}
}

// P7.4: none that adds undoes what one that swaps did, nor the other way round.
func TestAddAndSwapAtATime(t *testing.T) {
	const many, each = 8, 3000
	c := tally.New("a", "b")
	atATime(many, func(i int) {
		for range each {
			if i%2 == 0 {
				c.Add("a", 2)
			} else {
				raise(c, "a")
			}
		}
	})
	checkCount(t, c, "a", many/2*each*3)
	checkCount(t, c, "b", 0)
}

// P7.4: the first calls of a new tally may be anything, of several at a time: none of them is lost.
func TestFirstCallsAtATime(t *testing.T) {
	const many = 18
	names := append([]string{"sum", "one"}, manyNames(50)...)
	for range 500 {
		c := tally.New(slices.Concat(names, names)...)
		var won [many]bool
		atATime(many, func(i int) {
			switch i % 6 {
			case 0:
				mustAdd(t, c, "sum", 3)
			case 1:
				won[i] = c.Swap("one", 0, int64(i))
			case 2:
				if n, is := c.Count("sum"); !is || n%3 != 0 || n < 0 || n > many/6*3 {
					t.Errorf("Count: %d, %v", n, is)
				}
			case 3:
				checkNames(t, c, names...)
			case 4:
				if l := c.Lines(); len(l) > 2 {
					t.Errorf("Lines: %q", l)
				}
			case 5:
				if _, is := c.Count("none"); is || c.Add("none", 1) || c.Swap("none", 0, 1) {
					t.Error("there is no such name")
				}
			}
		})
		all := 0
		for _, is := range won {
			if is {
				all++
			}
		}
		checkCount(t, c, "sum", many/6*3)
		if all != 1 {
			t.Fatalf("%d did", all)
		}
		checkNames(t, c, names...)
	}
}

// checkMeanwhile: what is told while counts only rise, by ones that are no more than most, is one of the counts on the way.
func checkMeanwhile(t *testing.T, c *tally.Tally, names []string, top int64) {
	t.Helper()
	was := make([]int64, len(names))
	for range 300 {
		checkNames(t, c, names...)
		for i, name := range names {
			n, is := c.Count(name)
			if !is || n < was[i] || n > top {
				t.Errorf("Count(%q): %d, %v behind %d", name, n, is, was[i])
			}
			was[i] = n
		}
		at := 0
		for _, l := range c.Lines() {
			name, count, _ := strings.Cut(l, " ")
			i := slices.Index(names, name)
			n, err := strconv.ParseInt(count, 10, 64)
			if i < at || err != nil || n < max(1, was[i]) || n > top {
				t.Errorf("line %q behind %d", l, was)
				return
			}
			was[i], at = n, i+1
		}
	}
}

// P7.3, P7.4: what is asked meanwhile: all names, in order; counts that others add and swap to.
func TestAskedMeanwhile(t *testing.T) {
	const many, each = 12, 4000
	names := []string{"c", "a", "d", "b"}
	c := tally.New(slices.Concat(names, names)...)
	atATime(many, func(i int) {
		if i%3 == 2 {
			checkMeanwhile(t, c, names, many*each)
			return
		}
		for j := range each {
			if i%3 == 0 {
				c.Add(names[j%4], 1)
			} else {
				raise(c, names[j%4])
			}
		}
	})
	for _, name := range names {
		checkCount(t, c, name, many/3*2*each/4)
	}
}

// P7.3: no line tells a count of 0, though it comes to 0 while it is asked for.
func TestNoLineOfNothing(t *testing.T) {
	names := manyNames(64)
	c := tally.New(names...)
	const turning = 4
	var left sync.WaitGroup
	done := make(chan bool)
	for range turning {
		left.Go(func() {
			for {
				select {
				case <-done:
					return
				default:
				}
				for _, name := range names {
					c.Add(name, 1)
					c.Add(name, -1)
				}
				runtime.Gosched()
			}
		})
	}
	for range 20000 {
		for _, l := range c.Lines() {
			n, err := strconv.ParseInt(l[strings.LastIndex(l, " ")+1:], 10, 64)
			if err != nil || n < 1 || n > turning {
				t.Fatalf("line %q", l)
			}
		}
	}
	close(done)
	left.Wait()
	checkLines(t, c)
}
