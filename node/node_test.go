package node_test

import (
	"fmt"
	"math"
	"math/rand"
	"slices"
	"strconv"
	"strings"
	"sync"
	"testing"

	"signalman/api"
	"signalman/class"
	"signalman/node"
	"signalman/plan"
)

const most = math.MaxUint64

const (
	putA  = "insert into kv values ('a', '1')"
	putA2 = "insert into kv values ('a', '2')"
	putB  = "insert into kv values ('b', '3') -- x"
	newA  = "update kv set v = '4' where k = 'a'"
	newB  = "update kv set v = '5' where k = 'b'"
	delA  = "delete from kv where k = 'a'"
	getA  = "select v from kv where k = 'a'"
	getB  = "SELECT V FROM KV WHERE K = 'b' ;"
	all   = "select * from kv"
)

// statement is one whose class, and what it does of a table, is known by heart.
type statement struct {
	text string
	kind int
	does plan.Plan
}

func statements() []statement {
	return []statement{
		{getA, class.Read, plan.Plan{Do: plan.Get, Key: "a"}},
		{getB, class.Read, plan.Plan{Do: plan.Get, Key: "b"}},
		{all, class.Read, plan.Plan{Do: plan.All}},
		{"/*+ replica */ select * from kv", class.Read, plan.Plan{Do: plan.All}},
		{"select 1", class.Read, plan.Plan{}},
		{"show tables", class.Read, plan.Plan{}},
		{"explain " + putA, class.Read, plan.Plan{}},
		{putA, class.Write, plan.Plan{Do: plan.Put, Key: "a", Value: "1"}},
		{putA2, class.Write, plan.Plan{Do: plan.Put, Key: "a", Value: "2"}},
		{putB, class.Write, plan.Plan{Do: plan.Put, Key: "b", Value: "3"}},
		{newA, class.Write, plan.Plan{Do: plan.Change, Key: "a", Value: "4"}},
		{newB, class.Write, plan.Plan{Do: plan.Change, Key: "b", Value: "5"}},
		{delA, class.Write, plan.Plan{Do: plan.Del, Key: "a"}},
		{"/*+ primary */ delete from kv where k = 'b'", class.Write, plan.Plan{Do: plan.Del, Key: "b"}},
		{"insert into kv values (1, 2)", class.Write, plan.Plan{}},
		{getA + " for update", class.Write, plan.Plan{}},
		{"create table kv", class.Write, plan.Plan{}},
		{"explain analyze " + delA, class.Write, plan.Plan{}},
		{"foo", class.Unknown, plan.Plan{}},
		{"", class.Unknown, plan.Plan{}},
		{"; " + putA, class.Unknown, plan.Plan{}},
		{putA + "; " + putA, class.Unknown, plan.Plan{}},
		{"begin now", class.Unknown, plan.Plan{}},
		{"rollback to x", class.Unknown, plan.Plan{}},
		{"set autocommit = 0", class.Unknown, plan.Plan{}},
		{"begin", class.Begin, plan.Plan{}},
		{"start transaction read only", class.Begin, plan.Plan{}},
		{"commit", class.Commit, plan.Plan{}},
		{"COMMIT work;", class.Commit, plan.Plan{}},
		{"rollback", class.Rollback, plan.Plan{}},
		{"Rollback Work", class.Rollback, plan.Plan{}},
		{"set x = 1", class.Set, plan.Plan{}},
		{"'", class.Bad, plan.Plan{}},
		{putA + " /*", class.Bad, plan.Plan{}},
		{strings.Repeat("a", api.MostText+1), class.Bad, plan.Plan{}},
	}
}

// byText are the statements by their texts, made once, as the models ask for many.
var byText = sync.OnceValue(func() map[string]statement {
	m := map[string]statement{}
	for _, s := range statements() {
		m[s.text] = s
	}
	return m
})

// known tells a statement by its text: those that aren't listed are single words.
func known(text string) statement {
	if s, is := byText()[text]; is {
		return s
	}
	return statement{text: text, kind: class.Unknown}
}

// ofKind are the texts of the statements of a class.
func ofKind(kind int) []string {
	var l []string
	for _, s := range statements() {
		if s.kind == kind {
			l = append(l, s.text)
		}
	}
	return l
}

// What these tests know by heart is what is said of the statements.
func TestStatements(t *testing.T) {
	c := class.New()
	for _, s := range statements() {
		if c.Class(s.text) != s.kind || plan.Of(s.text) != s.does {
			t.Errorf("%q: %d, %v", s.text, c.Class(s.text), plan.Of(s.text))
		}
	}
}

// model is a node that is told in another way: it writes down what came, and looks there for what is asked.
type model struct {
	epoch uint64
	leads bool
	log   []node.Entry
	open  []int  // the connections that have a transaction
	waits []wait // what waits of all of these, as it came
}

type wait struct {
	conn int
	text string
}

func (m *model) has(conn int) bool { return slices.Contains(m.open, conn) }

// of are the texts that wait in a connection's transaction.
func (m *model) of(conn int) []string {
	var l []string
	for _, w := range m.waits {
		if w.conn == conn {
			l = append(l, w.text)
		}
	}
	return l
}

func (m *model) close(conn int) bool {
	had := m.has(conn)
	m.open = slices.DeleteFunc(m.open, func(c int) bool { return c == conn })
	m.waits = slices.DeleteFunc(m.waits, func(w wait) bool { return w.conn == conn })
	return had
}

func (m *model) lead(epoch uint64) bool {
	if m.epoch > epoch {
		return false
	}
	*m = model{epoch: epoch, leads: true, log: m.log}
	return true
}

// refuses tells the first error that applies.
func (m *model) refuses(conn int, epoch uint64, reads bool, kind int) api.Errno {
	has, waits, laid := m.has(conn), len(m.of(conn)), len(m.log)
	writes := kind == class.Write || kind == class.Unknown
	for _, rule := range []struct {
		applies bool
		e       api.Errno
	}{
		{epoch != m.epoch, api.ErrStale},
		{kind == class.Bad, api.ErrForm},
		{reads && kind != class.Read, api.ErrForm},
		{!reads && !m.leads, api.ErrState},
		{kind == class.Begin && has, api.ErrState},
		{kind == class.Commit && !has, api.ErrState},
		{kind == class.Rollback && !has, api.ErrState},
		{kind == class.Commit && laid+waits > 200, api.ErrFull},
		{writes && has && waits == 200, api.ErrFull},
		{writes && !has && laid == 200, api.ErrFull},
	} {
		if rule.applies {
			return rule.e
		}
	}
	return api.OK
}

func (m *model) run(conn int, epoch uint64, reads bool, text string) node.Reply {
	s := known(text)
	r := node.Reply{Err: m.refuses(conn, epoch, reads, s.kind), Epoch: m.epoch}
	switch {
	case r.Err == api.OK:
		r.Texts = m.does(conn, s)
	case r.Err == api.ErrFull && s.kind == class.Commit:
		m.close(conn)
	}
	r.Place = uint64(len(m.log))
	return r
}

func (m *model) does(conn int, s statement) []string {
	switch s.kind {
	case class.Read:
		return told(s.does, append(textsOf(m.log), m.of(conn)...))
	case class.Begin:
		m.open = append(m.open, conn)
	case class.Commit:
		m.lay(m.of(conn))
		m.close(conn)
	case class.Rollback:
		m.close(conn)
	case class.Write, class.Unknown:
		if m.has(conn) {
			m.waits = append(m.waits, wait{conn, s.text})
		} else {
			m.lay([]string{s.text})
		}
	}
	return nil
}

func (m *model) lay(texts []string) {
	for _, text := range texts {
		m.log = append(m.log, node.Entry{Epoch: m.epoch, Text: text})
	}
}

func (m *model) copy(from *model, limit int) int {
	if m.epoch > from.epoch || m.epoch == from.epoch && m.leads {
		return 0
	}
	if m.epoch < from.epoch {
		*m = model{epoch: from.epoch, log: m.log}
	}
	for len(m.log) > len(from.log) || !slices.Equal(m.log, from.log[:len(m.log)]) {
		m.log = slices.Clone(m.log[:len(m.log)-1])
	}
	copied := 0
	for ; copied < limit && len(m.log) < len(from.log); copied++ {
		m.log = append(m.log, from.log[len(m.log)])
	}
	return copied
}

func textsOf(l []node.Entry) []string {
	var texts []string
	for _, e := range l {
		texts = append(texts, e.Text)
	}
	return texts
}

// value tells what a key is behind statements: the last one that says that tells.
func value(l []string, key string) (string, bool) {
	for i, text := range slices.Backward(l) {
		switch p := known(text).does; {
		case p.Do == plan.Put && p.Key == key:
			return p.Value, true
		case p.Do == plan.Del && p.Key == key:
			return "", false
		case p.Do == plan.Change && p.Key == key:
			_, is := value(l[:i], key)
			return p.Value, is
		}
	}
	return "", false
}

// tableOf is the table of statements.
func tableOf(l []string) []plan.Pair {
	var table []plan.Pair
	for _, key := range []string{"a", "b"} {
		if v, is := value(l, key); is {
			table = append(table, plan.Pair{Key: key, Value: v})
		}
	}
	return table
}

// told are the texts that a read tells behind statements.
func told(p plan.Plan, l []string) []string {
	var texts []string
	for _, pair := range tableOf(l) {
		switch {
		case p.Do == plan.All:
			texts = append(texts, pair.Key, pair.Value)
		case p.Do == plan.Get && pair.Key == p.Key:
			texts = append(texts, pair.Value)
		}
	}
	return texts
}

func sameReply(a, b node.Reply) bool {
	return a.Err == b.Err && a.Epoch == b.Epoch && a.Place == b.Place && slices.Equal(a.Texts, b.Texts)
}

// brief is a text that isn't too long for what a test tells.
func brief(text string) string {
	if len(text) > 50 {
		return text[:50] + ".."
	}
	return text
}

// both is a node, and its model: what one answers is held against the other, and so is what they are behind it.
type both struct {
	t *testing.T
	n *node.Node
	m *model
}

func newBoth(t *testing.T) *both { return &both{t, node.New(), &model{epoch: 1}} }

func (b *both) check(what string) {
	b.t.Helper()
	if b.n.Epoch() != b.m.epoch || b.n.Leads() != b.m.leads {
		b.t.Fatalf("%s: epoch %d, leads %v, not %d, %v", what, b.n.Epoch(), b.n.Leads(), b.m.epoch, b.m.leads)
	}
	if l := b.n.Log(); !slices.Equal(l, b.m.log) {
		b.t.Fatalf("%s: log %v, not %v", what, l, b.m.log)
	}
	if l, want := b.n.Table(), tableOf(textsOf(b.m.log)); !slices.Equal(l, want) {
		b.t.Fatalf("%s: table %v, not %v", what, l, want)
	}
}

func (b *both) lead(epoch uint64) bool {
	b.t.Helper()
	is, want := b.n.Lead(epoch), b.m.lead(epoch)
	if is != want {
		b.t.Fatalf("Lead(%d): %v", epoch, is)
	}
	b.check("Lead")
	return is
}

func (b *both) run(conn int, epoch uint64, reads bool, text string) node.Reply {
	b.t.Helper()
	r := b.answer(conn, epoch, reads, text)
	b.check(brief(text))
	return r
}

// answer is what both answer; what they are behind it isn't looked at.
func (b *both) answer(conn int, epoch uint64, reads bool, text string) node.Reply {
	b.t.Helper()
	r, want := b.n.Run(conn, epoch, reads, text), b.m.run(conn, epoch, reads, text)
	if !sameReply(r, want) {
		b.t.Fatalf("Run(%d, %d, %v, %q): %v, not %v", conn, epoch, reads, brief(text), r, want)
	}
	return r
}

// now runs texts in the node's epoch, each of which is taken.
func (b *both) now(conn int, texts ...string) {
	b.t.Helper()
	for _, text := range texts {
		if r := b.run(conn, b.m.epoch, false, text); r.Err != api.OK {
			b.t.Fatalf("%q: %v", text, r)
		}
	}
}

// fill runs so many words, each of which is taken, and looks at the node behind the last one alone.
func (b *both) fill(conn, n int) {
	b.t.Helper()
	for i := range n {
		if r := b.answer(conn, b.m.epoch, false, "w"+strconv.Itoa(i)); r.Err != api.OK {
			b.t.Fatalf("word %d: %v", i, r)
		}
	}
	b.check("filled")
}

func (b *both) close(conn int) bool {
	b.t.Helper()
	is, want := b.n.Close(conn), b.m.close(conn)
	if is != want {
		b.t.Fatalf("Close(%d): %v", conn, is)
	}
	b.check("Close")
	return is
}

func (b *both) copy(from *both, limit int) int {
	b.t.Helper()
	n, want := b.n.Copy(from.n, limit), b.m.copy(from.m, limit)
	if n != want {
		b.t.Fatalf("Copy of %d: %d, not %d", limit, n, want)
	}
	b.check("Copy")
	from.check("copied from")
	return n
}

// row is a statement that is run in the node's epoch, with reads false, and what is told of it.
type row struct {
	conn  int
	text  string
	err   api.Errno
	place uint64
	texts string
}

func checkRun(t *testing.T, n *node.Node, conn int, epoch uint64, reads bool, text string, want node.Reply) {
	t.Helper()
	if r := n.Run(conn, epoch, reads, text); !sameReply(r, want) {
		t.Errorf("Run(%d, %d, %v, %q): %v, not %v", conn, epoch, reads, brief(text), r, want)
	}
	if n.Epoch() != want.Epoch || uint64(len(n.Log())) != want.Place {
		t.Errorf("behind %q: epoch %d, %d entries", brief(text), n.Epoch(), len(n.Log()))
	}
}

func checkRows(t *testing.T, n *node.Node, rows ...row) {
	t.Helper()
	for _, r := range rows {
		want := node.Reply{Err: r.err, Epoch: n.Epoch(), Place: r.place, Texts: strings.Fields(r.texts)}
		checkRun(t, n, r.conn, n.Epoch(), false, r.text, want)
	}
}

// state is a node's epoch, with L if it leads, else F, and its log: "2L 1:p 2:q".
func state(n *node.Node) string {
	s := strconv.FormatUint(n.Epoch(), 10) + "F"
	if n.Leads() {
		s = strings.Replace(s, "F", "L", 1)
	}
	for _, e := range n.Log() {
		s += fmt.Sprintf(" %d:%s", e.Epoch, e.Text)
	}
	return s
}

func checkState(t *testing.T, n *node.Node, want string) {
	t.Helper()
	for range 2 {
		if s := state(n); s != want {
			t.Errorf("%s, not %s", s, want)
		}
	}
}

// at makes a node that has such a state.
func at(t *testing.T, want string) *node.Node {
	t.Helper()
	n := node.New()
	head, log, _ := strings.Cut(want, " ")
	for _, field := range strings.Fields(log) {
		epoch, text, _ := strings.Cut(field, ":")
		n.Lead(number(epoch))
		n.Run(1, n.Epoch(), false, text)
	}
	n.Lead(number(head[:len(head)-1]))
	if strings.HasSuffix(head, "F") {
		follower := node.New()
		follower.Copy(n, math.MaxInt)
		n = follower
	}
	checkState(t, n, want)
	return n
}

func number(text string) uint64 {
	n, err := strconv.ParseUint(text, 10, 64)
	if err != nil {
		panic(text)
	}
	return n
}

// filled leads the epoch 1, with so many entries.
func filled(t *testing.T, n int) *both {
	t.Helper()
	b := newBoth(t)
	b.lead(1)
	b.fill(1, n)
	return b
}

func conns() []int {
	return []int{0, 1, 2, -1, -2, 255, 256, 1<<31 - 1, 1 << 31, -1 << 31, 1 << 32, 1<<32 + 1, -1 << 32, math.MaxInt - 1, math.MaxInt, math.MinInt + 1, math.MinInt}
}

func epochs() []uint64 {
	return []uint64{0, 1, 2, 3, 255, 256, 257, 1<<31 - 1, 1 << 31, 1<<32 - 1, 1 << 32, 1<<32 + 1, 1<<53 + 1, 1<<63 - 1, 1 << 63, 1<<63 + 1, most - 1, most}
}

// P15.1, P15.2: the document's example, and the names of what is told.
func TestExample(t *testing.T) {
	n := node.New()
	if !n.Lead(1) {
		t.Error("Lead")
	}
	r := n.Run(1, 1, false, "insert into kv values ('a', 'b')")
	if r.Err != api.OK || r.Epoch != 1 || r.Place != 1 || len(r.Texts) != 0 {
		t.Errorf("%v", r)
	}
	if l := n.Log(); !slices.Equal(l, []node.Entry{{Epoch: 1, Text: "insert into kv values ('a', 'b')"}}) {
		t.Errorf("%v", l)
	}
	if l := n.Table(); !slices.Equal(l, []plan.Pair{{Key: "a", Value: "b"}}) {
		t.Errorf("%v", l)
	}
}

// P15.1: a new node leads nothing, and has nothing.
func TestNew(t *testing.T) {
	n := node.New()
	for range 2 {
		if n.Epoch() != 1 || n.Leads() || len(n.Log()) != 0 || len(n.Table()) != 0 {
			t.Errorf("epoch %d, leads %v, log %v, table %v", n.Epoch(), n.Leads(), n.Log(), n.Table())
		}
	}
}

// P15.1, P15.2: what is told of a new node is that it doesn't lead; it only takes reads, which tell nothing.
func TestNewRuns(t *testing.T) {
	n := node.New()
	for _, s := range statements() {
		for _, conn := range conns() {
			as, reads := api.ErrState, api.ErrForm
			switch s.kind {
			case class.Bad:
				as = api.ErrForm
			case class.Read:
				reads = api.OK
			}
			checkRun(t, n, conn, 1, false, s.text, node.Reply{Err: as, Epoch: 1})
			checkRun(t, n, conn, 1, true, s.text, node.Reply{Err: reads, Epoch: 1})
		}
		for _, epoch := range epochs() {
			if epoch != 1 {
				checkRun(t, n, 1, epoch, false, s.text, node.Reply{Err: api.ErrStale, Epoch: 1})
				checkRun(t, n, 1, epoch, true, s.text, node.Reply{Err: api.ErrStale, Epoch: 1})
			}
		}
	}
	checkState(t, n, "1F")
}

// P15.1, P15.3: nothing is closed of a new node, nor copied from one.
func TestNewClosesAndCopies(t *testing.T) {
	n, other := node.New(), node.New()
	for _, number := range conns() {
		if n.Close(number) {
			t.Errorf("Close(%d)", number)
		}
		if n.Copy(other, number) != 0 || n.Copy(n, number) != 0 {
			t.Errorf("Copy of %d", number)
		}
	}
	checkState(t, n, "1F")
	checkState(t, other, "1F")
}

// begun leads an epoch, and has transactions of the connections 1 and 2, one of which is empty.
func begun(t *testing.T, epoch uint64) *both {
	t.Helper()
	b := newBoth(t)
	b.lead(epoch)
	b.now(9, putA)
	b.now(1, "begin", putB)
	b.now(2, "begin")
	return b
}

// P15.1: Lead of each epoch that is no earlier is told yes, and drops all transactions; of each other one no, and nothing is changed.
func TestLead(t *testing.T) {
	for _, own := range epochs()[1:] {
		for _, epoch := range append(epochs(), own-1, own, own+1, own/2) {
			n := begun(t, own).n
			want := epoch >= own
			if is := n.Lead(epoch); is != want {
				t.Errorf("Lead(%d) at %d: %v", epoch, own, is)
			}
			if n.Epoch() != max(own, epoch) || !n.Leads() || len(n.Log()) != 1 {
				t.Errorf("Lead(%d) at %d: epoch %d, leads %v", epoch, own, n.Epoch(), n.Leads())
			}
			if n.Close(1) == want || n.Close(2) == want {
				t.Errorf("Lead(%d) at %d: transactions", epoch, own)
			}
		}
	}
}

// P15.1: a node that doesn't lead comes to by its own epoch or a later one; told no, it still doesn't.
func TestLeadOfFollowers(t *testing.T) {
	for _, r := range []struct {
		from  string
		epoch uint64
		want  bool
		to    string
	}{
		{"1F", 0, false, "1F"},
		{"1F", 1, true, "1L"},
		{"1F", 2, true, "2L"},
		{"1F", most, true, "18446744073709551615L"},
		{"7F 2:p 7:q", 0, false, "7F 2:p 7:q"},
		{"7F 2:p 7:q", 1, false, "7F 2:p 7:q"},
		{"7F 2:p 7:q", 2, false, "7F 2:p 7:q"},
		{"7F 2:p 7:q", 6, false, "7F 2:p 7:q"},
		{"7F 2:p 7:q", 7, true, "7L 2:p 7:q"},
		{"7F 2:p 7:q", 8, true, "8L 2:p 7:q"},
		{"7F 2:p", 900, true, "900L 2:p"},
		{"7L 2:p", 6, false, "7L 2:p"},
		{"7L 2:p", 7, true, "7L 2:p"},
	} {
		n := at(t, r.from)
		if is := n.Lead(r.epoch); is != r.want {
			t.Errorf("%s: Lead(%d): %v", r.from, r.epoch, is)
		}
		checkState(t, n, r.to)
	}
}

// P15.1, P15.4: the transactions that a Lead drops are told of no more, and nothing of them is laid; others begin behind it.
func TestLeadDrops(t *testing.T) {
	for _, epoch := range []uint64{3, 4, most} {
		b := begun(t, 3)
		b.lead(epoch)
		checkRows(t, b.n,
			row{1, "commit", api.ErrState, 1, ""},
			row{2, "commit", api.ErrState, 1, ""},
			row{1, "rollback", api.ErrState, 1, ""},
			row{1, all, api.OK, 1, "a 1"},
			row{1, "begin", api.OK, 1, ""},
			row{1, "commit", api.OK, 1, ""},
			row{2, "begin", api.OK, 1, ""},
			row{2, "foo", api.OK, 1, ""},
			row{2, "commit", api.OK, 2, ""},
		)
		if l := b.n.Log(); l[0] != (node.Entry{Epoch: 3, Text: putA}) || l[1] != (node.Entry{Epoch: epoch, Text: "foo"}) {
			t.Errorf("%v", l)
		}
	}
}

// P15.1: Close tells of a connection that has a transaction, once, and of no other one's.
func TestClose(t *testing.T) {
	for _, conn := range conns() {
		n := at(t, "2L 1:p")
		for _, texts := range [][]string{{"begin"}, {"begin", putA}, {"begin", putA, "foo", putB}} {
			if n.Close(conn) {
				t.Errorf("Close(%d), without one", conn)
			}
			for _, text := range texts {
				checkRows(t, n, row{conn, text, api.OK, 1, ""})
			}
			for _, other := range conns() {
				if other != conn && n.Close(other) {
					t.Errorf("Close(%d), of %d's", other, conn)
				}
			}
			if !n.Close(conn) || n.Close(conn) {
				t.Errorf("Close(%d)", conn)
			}
			checkState(t, n, "2L 1:p")
			checkRows(t, n, row{conn, "commit", api.ErrState, 1, ""}, row{conn, all, api.OK, 1, ""})
		}
	}
}

// P15.1: connections have transactions apart, whatever their numbers are.
func TestConnsApart(t *testing.T) {
	n := at(t, "1L")
	for i, conn := range conns() {
		checkRows(t, n, row{conn, "begin", api.OK, 0, ""}, row{conn, fmt.Sprintf("insert into kv values ('a', '%d')", i), api.OK, 0, ""})
	}
	for i, conn := range conns() {
		checkRows(t, n, row{conn, getA, api.OK, 0, strconv.Itoa(i)})
	}
	for i, conn := range conns() {
		if i%2 == 0 {
			checkRows(t, n, row{conn, "commit", api.OK, uint64(i/2 + 1), ""})
		} else if !n.Close(conn) {
			t.Errorf("Close(%d)", conn)
		}
	}
	checkRows(t, n, row{3, all, api.OK, uint64(len(conns())+1) / 2, fmt.Sprintf("a %d", len(conns())-1)})
}

// P15.2: each statement, with reads true and false, of a node that leads and that doesn't, in its epoch and in others, of connections that have a transaction, that have an empty one, and that have none.
func TestRunEach(t *testing.T) {
	for _, own := range []uint64{1, 2, 7, most} {
		for _, s := range statements() {
			for _, epoch := range []uint64{own, own - 1, own + 1, 0, most} {
				for _, conn := range []int{1, 2, 3} {
					for _, reads := range []bool{false, true} {
						b := begun(t, own)
						b.run(conn, epoch, reads, s.text)
						b.run(conn, own, true, all)
						b.run(conn, own, false, "commit")
						follower := newBoth(t)
						follower.copy(b, 9)
						follower.run(conn, epoch, reads, s.text)
						b.now(4, "foo")
						for _, conn := range []int{1, 2, 3} {
							b.close(conn)
							follower.close(conn)
						}
					}
				}
			}
		}
	}
}

// P15.2: of two errors that apply, the one that is named first; beside each stand the node's epoch and how many entries it has, and no texts.
func TestErrors(t *testing.T) {
	for _, r := range []struct {
		what  string
		epoch uint64
		reads bool
		conn  int
		text  string
		want  api.Errno
	}{
		{"full", 1, false, 3, "'", api.ErrStale},
		{"full", 3, false, 3, "'", api.ErrStale},
		{"full", 0, true, 3, putA, api.ErrStale},
		{"full", 3, true, 3, "'", api.ErrStale},
		{"full", 1, true, 3, getA, api.ErrStale},
		{"full", 3, false, 3, getA, api.ErrStale},
		{"full", 1, false, 1, "begin", api.ErrStale},
		{"full", 1, false, 3, "commit", api.ErrStale},
		{"full", 3, false, 3, "rollback", api.ErrStale},
		{"full", 1, false, 3, "set x = 1", api.ErrStale},
		{"full", 1, false, 1, "commit", api.ErrStale},
		{"full", 1, false, 3, putA, api.ErrStale},
		{"full", most, false, 3, "foo", api.ErrStale},
		{"full", 1, false, 1, putA, api.ErrStale},
		{"full", 2, false, 3, "'", api.ErrForm},
		{"full", 2, true, 3, "'", api.ErrForm},
		{"full", 2, true, 3, putA, api.ErrForm},
		{"full", 2, true, 3, "foo", api.ErrForm},
		{"full", 2, true, 1, "foo", api.ErrForm},
		{"full", 2, true, 1, "begin", api.ErrForm},
		{"full", 2, true, 1, "commit", api.ErrForm},
		{"full", 2, true, 3, "commit", api.ErrForm},
		{"full", 2, true, 3, "rollback", api.ErrForm},
		{"full", 2, true, 3, "set x = 1", api.ErrForm},
		{"full", 2, false, 1, "begin", api.ErrState},
		{"full", 2, false, 3, "commit", api.ErrState},
		{"full", 2, false, 3, "rollback", api.ErrState},
		{"full", 2, false, 3, putA, api.ErrFull},
		{"full", 2, false, 3, "foo", api.ErrFull},
		{"full", 2, false, 1, putA, api.ErrFull},
		{"full", 2, false, 1, "foo", api.ErrFull},
		{"full", 2, false, 1, "commit", api.ErrFull},
		{"follows", 1, false, 3, "'", api.ErrStale},
		{"follows", 1, false, 3, getA, api.ErrStale},
		{"follows", 3, true, 3, putA, api.ErrStale},
		{"follows", 3, true, 3, getA, api.ErrStale},
		{"follows", 2, false, 3, "'", api.ErrForm},
		{"follows", 2, true, 3, "begin", api.ErrForm},
		{"follows", 2, true, 3, putA, api.ErrForm},
		{"follows", 2, false, 3, getA, api.ErrState},
		{"follows", 2, false, 3, putA, api.ErrState},
		{"follows", 2, false, 3, "foo", api.ErrState},
		{"follows", 2, false, 3, "begin", api.ErrState},
		{"follows", 2, false, 1, "commit", api.ErrState},
		{"follows", 2, false, 1, "rollback", api.ErrState},
		{"follows", 2, false, 1, "set x = 1", api.ErrState},
	} {
		b := crowded(t)
		n := b.n
		if r.what == "follows" {
			n = node.New()
			n.Copy(b.n, math.MaxInt)
		}
		before := state(n)
		checkRun(t, n, r.conn, r.epoch, r.reads, r.text, node.Reply{Err: r.want, Epoch: 2, Place: api.MostLog})
		checkState(t, n, before)
		kept := r.what == "full" && !(r.want == api.ErrFull && r.text == "commit")
		if n.Close(1) != kept {
			t.Errorf("%s, %q: the transaction", r.what, r.text)
		}
	}
}

// crowded leads the epoch 2 with a full log, and the connection 1 has a transaction in which as many texts wait as may.
func crowded(t *testing.T) *both {
	t.Helper()
	b := filled(t, api.MostLog)
	b.lead(2)
	b.now(1, "begin")
	b.fill(1, api.MostLog)
	return b
}

// P15.2: Begin, Commit and Rollback, of connections that have a transaction and that have none.
func TestTransactions(t *testing.T) {
	n := at(t, "1L")
	checkRows(t, n,
		row{1, "commit", api.ErrState, 0, ""},
		row{1, "rollback", api.ErrState, 0, ""},
		row{1, "begin", api.OK, 0, ""},
		row{1, "begin", api.ErrState, 0, ""},
		row{1, "start transaction", api.ErrState, 0, ""},
		row{1, "commit", api.OK, 0, ""},
		row{1, "commit", api.ErrState, 0, ""},
		row{1, "begin work", api.OK, 0, ""},
		row{1, "rollback", api.OK, 0, ""},
		row{1, "rollback", api.ErrState, 0, ""},
		row{1, "start transaction", api.OK, 0, ""},
		row{1, "p", api.OK, 0, ""},
		row{1, "begin", api.ErrState, 0, ""},
		row{2, "commit", api.ErrState, 0, ""},
		row{2, "rollback", api.ErrState, 0, ""},
		row{2, "begin", api.OK, 0, ""},
		row{2, "q", api.OK, 0, ""},
		row{1, "r", api.OK, 0, ""},
		row{1, "set x = 1", api.OK, 0, ""},
		row{3, "s", api.OK, 1, ""},
		row{1, "commit work", api.OK, 3, ""},
		row{1, "commit", api.ErrState, 3, ""},
		row{2, "u", api.OK, 3, ""},
		row{2, "rollback work", api.OK, 3, ""},
		row{2, "commit", api.ErrState, 3, ""},
		row{1, "v", api.OK, 4, ""},
	)
	checkState(t, n, "1L 1:s 1:p 1:r 1:v")
}

// P15.2: a Begin that is refused takes nothing of the transaction that is there.
func TestBeginTwice(t *testing.T) {
	n := at(t, "1L")
	checkRows(t, n,
		row{1, "begin", api.OK, 0, ""},
		row{1, putA, api.OK, 0, ""},
		row{1, "begin", api.ErrState, 0, ""},
		row{1, getA, api.OK, 0, "1"},
		row{1, putB, api.OK, 0, ""},
		row{1, "commit", api.OK, 2, ""},
		row{1, all, api.OK, 2, "a 1 b 3"},
	)
}

// P15.2, P15.4: a Commit lays its texts in their order, with nothing between, in the epoch that the node leads.
func TestCommitLays(t *testing.T) {
	n := at(t, "4L 2:p 4:q")
	checkRows(t, n,
		row{1, "begin", api.OK, 2, ""},
		row{2, "begin", api.OK, 2, ""},
		row{1, "a", api.OK, 2, ""},
		row{2, "x", api.OK, 2, ""},
		row{1, "b", api.OK, 2, ""},
		row{3, "m", api.OK, 3, ""},
		row{2, "y", api.OK, 3, ""},
		row{1, "a", api.OK, 3, ""},
		row{2, "commit", api.OK, 5, ""},
		row{3, "n", api.OK, 6, ""},
		row{1, "commit", api.OK, 9, ""},
	)
	checkState(t, n, "4L 2:p 4:q 4:m 4:x 4:y 4:n 4:a 4:b 4:a")
	n.Lead(6)
	checkRows(t, n, row{1, "begin", api.OK, 9, ""}, row{1, "z", api.OK, 9, ""}, row{1, "commit", api.OK, 10, ""}, row{1, "z", api.OK, 11, ""})
	checkState(t, n, "6L 2:p 4:q 4:m 4:x 4:y 4:n 4:a 4:b 4:a 6:z 6:z")
}

// P15.2: what is read of a connection that has a transaction is the table behind its own texts, whatever reads is; another connection's aren't read.
func TestReads(t *testing.T) {
	n := at(t, "1L")
	read := func(conn int, text, texts string) {
		t.Helper()
		for _, reads := range []bool{false, true} {
			checkRun(t, n, conn, 1, reads, text, node.Reply{Epoch: 1, Place: uint64(len(n.Log())), Texts: strings.Fields(texts)})
		}
	}
	read(1, all, "")
	read(1, getA, "")
	checkRows(t, n, row{1, putB, api.OK, 1, ""}, row{1, "begin", api.OK, 1, ""})
	read(1, all, "b 3")
	checkRows(t, n, row{1, newA, api.OK, 1, ""})
	read(1, getA, "")
	checkRows(t, n, row{1, putA, api.OK, 1, ""}, row{1, "foo", api.OK, 1, ""})
	read(1, getA, "1")
	read(1, all, "a 1 b 3")
	read(2, getA, "")
	read(2, all, "b 3")
	checkRows(t, n, row{2, newB, api.OK, 2, ""}, row{2, "begin", api.OK, 2, ""}, row{2, putA2, api.OK, 2, ""})
	read(1, all, "a 1 b 5")
	read(2, all, "a 2 b 5")
	read(3, all, "b 5")
	checkRows(t, n, row{1, newA, api.OK, 2, ""}, row{1, newB, api.OK, 2, ""})
	read(1, all, "a 4 b 5")
	checkRows(t, n, row{1, delA, api.OK, 2, ""})
	read(1, all, "b 5")
	read(1, getA, "")
	checkRows(t, n, row{2, "commit", api.OK, 3, ""})
	read(2, all, "a 2 b 5")
	read(1, all, "b 5")
	checkRows(t, n, row{1, "rollback", api.OK, 3, ""})
	read(1, all, "a 2 b 5")
	read(1, "select 1", "")
	read(1, "show tables", "")
	read(1, "explain "+delA, "")
	read(1, getA+" -- x", "2")
	read(1, "/*+ replica */ "+getB, "5")
}

// P15.2: a text that waits changes what its connection reads, but not the table, till it is laid.
func TestTable(t *testing.T) {
	n := at(t, "1L")
	table := func(want ...plan.Pair) {
		t.Helper()
		if l := n.Table(); !slices.Equal(l, want) {
			t.Errorf("%v, not %v", l, want)
		}
	}
	checkRows(t, n, row{1, "begin", api.OK, 0, ""}, row{1, putB, api.OK, 0, ""})
	table()
	checkRows(t, n, row{2, putA2, api.OK, 1, ""})
	table(plan.Pair{Key: "a", Value: "2"})
	checkRows(t, n, row{1, newA, api.OK, 1, ""})
	table(plan.Pair{Key: "a", Value: "2"})
	checkRows(t, n, row{1, "commit", api.OK, 3, ""})
	table(plan.Pair{Key: "a", Value: "4"}, plan.Pair{Key: "b", Value: "3"})
	checkRows(t, n, row{1, delA, api.OK, 4, ""})
	table(plan.Pair{Key: "b", Value: "3"})
}

// P15.2: what is Unknown, and what is Write but has no plan, is laid, and changes no table; of a connection that has a transaction it waits.
func TestNoPlan(t *testing.T) {
	for _, s := range statements() {
		if s.kind != class.Write && s.kind != class.Unknown || s.does != (plan.Plan{}) {
			continue
		}
		n := at(t, "1L")
		checkRows(t, n,
			row{1, putA, api.OK, 1, ""},
			row{1, s.text, api.OK, 2, ""},
			row{2, "begin", api.OK, 2, ""},
			row{2, s.text, api.OK, 2, ""},
			row{2, all, api.OK, 2, "a 1"},
			row{2, "commit", api.OK, 3, ""},
			row{2, all, api.OK, 3, "a 1"},
		)
		e := node.Entry{Epoch: 1, Text: s.text}
		if l := n.Log(); !slices.Equal(l, []node.Entry{{Epoch: 1, Text: putA}, e, e}) {
			t.Errorf("%q: %v", s.text, l)
		}
		if l := n.Table(); !slices.Equal(l, []plan.Pair{{Key: "a", Value: "1"}}) {
			t.Errorf("%q: %v", s.text, l)
		}
	}
}

// P15.2, P15.4: what is Read or Set lays nothing, nor does it wait.
func TestLaysNothing(t *testing.T) {
	for _, text := range append(ofKind(class.Read), ofKind(class.Set)...) {
		b := filled(t, 3)
		b.now(1, text)
		b.now(2, "begin", text, text)
		b.now(2, "commit")
		if len(b.n.Log()) != 3 {
			t.Errorf("%q: %v", text, b.n.Log())
		}
	}
}

// P15.2: a text is laid as it stands, if it has as many bytes as one may; a longer one is Bad.
func TestMostText(t *testing.T) {
	n := at(t, "1L")
	for i, size := range []int{len(putA), len(putA) + 1, api.MostText - 1, api.MostText} {
		text := putA + strings.Repeat(";", size-len(putA))
		checkRows(t, n, row{1, text, api.OK, uint64(i + 1), ""})
		if l := n.Log(); l[i].Text != text {
			t.Errorf("%q, not %q", l[i].Text, text)
		}
	}
	for _, size := range []int{api.MostText + 1, api.MostText + 2, 1000, 1 << 20} {
		checkRows(t, n,
			row{1, putA + strings.Repeat(";", size-len(putA)), api.ErrForm, 4, ""},
			row{1, getA + strings.Repeat(" ", size-len(getA)), api.ErrForm, 4, ""},
		)
	}
	checkRows(t, n, row{1, getA + strings.Repeat(" ", api.MostText-len(getA)), api.OK, 4, "1"})
}

// P15.2: as many texts as may be told are told of a table, and no more.
func TestMostTexts(t *testing.T) {
	n := at(t, "1L")
	var want []string
	for i := range 12 {
		key := "k" + string(rune('a'+i))
		if i < api.MostTexts/2 {
			want = append(want, key, "v")
		}
		checkRows(t, n, row{1, "insert into kv values ('" + key + "', 'v')", api.OK, uint64(i + 1), ""}, row{1, all, api.OK, uint64(i + 1), strings.Join(want, " ")})
	}
	if len(n.Table()) != 12 {
		t.Errorf("%v", n.Table())
	}
}

// P15.2: a log takes its last entry, and behind that only what lays nothing.
func TestFull(t *testing.T) {
	for _, last := range append(ofKind(class.Write), ofKind(class.Unknown)...) {
		b := filled(t, api.MostLog-1)
		b.now(1, last)
		for _, kind := range []int{class.Write, class.Unknown} {
			text := ofKind(kind)[1]
			checkRows(t, b.n, row{1, text, api.ErrFull, 200, ""}, row{2, text, api.ErrFull, 200, ""})
		}
		b.check("full")
		b.now(1, "set x = 1", all, getA, "begin", "commit", "begin", "rollback", "begin")
		b.now(1, putA, "foo", all)
		b.now(2, all)
		checkRows(t, b.n, row{1, "commit", api.ErrFull, 200, ""}, row{1, "commit", api.ErrState, 200, ""})
	}
}

// P15.2, P15.4: a Commit is laid if all of it fits; else nothing of it is, and its transaction is dropped.
func TestCommitFits(t *testing.T) {
	for _, r := range []struct{ laid, waits int }{
		{199, 0}, {199, 1}, {199, 2}, {200, 0}, {200, 1}, {200, 200}, {198, 1}, {198, 2}, {198, 3}, {100, 99}, {100, 100}, {100, 101}, {1, 198}, {1, 199}, {1, 200}, {0, 199}, {0, 200},
	} {
		b := newBoth(t)
		b.lead(1)
		b.fill(2, r.laid)
		b.now(1, "begin")
		b.fill(1, r.waits)
		place, e := uint64(r.laid+r.waits), api.OK
		if place > api.MostLog {
			place, e = uint64(r.laid), api.ErrFull
		}
		if got := b.run(1, 1, false, "commit"); got.Err != e || got.Place != place {
			t.Errorf("%v: %v", r, got)
		}
		if b.run(1, 1, false, "commit").Err != api.ErrState || b.close(1) {
			t.Errorf("%v: the transaction", r)
		}
		b.now(1, "begin", "commit", "begin", "rollback")
	}
}

// P15.2: as many texts wait as a log has entries, and no more; those that wait stay, and so does the transaction.
func TestMostWait(t *testing.T) {
	b := newBoth(t)
	b.lead(1)
	b.now(1, "begin", putA)
	b.fill(1, 198)
	b.now(1, putA2)
	for _, kind := range []int{class.Write, class.Unknown} {
		for _, text := range ofKind(kind) {
			if r := b.run(1, 1, false, text); r.Err != api.ErrFull || r.Place != 0 {
				t.Errorf("%q: %v", text, r)
			}
		}
	}
	b.now(1, "set x = 1", getA)
	checkRows(t, b.n, row{1, getA, api.OK, 0, "2"}, row{1, "begin", api.ErrState, 0, ""})
	b.now(2, "begin", putB)
	b.now(1, "commit")
	checkRows(t, b.n, row{2, all, api.OK, 200, "a 2 b 3"}, row{2, "commit", api.ErrFull, 200, ""}, row{2, all, api.OK, 200, "a 2"})
}

// P15.2: what waited may fit no more, as others laid what is between.
func TestFilledMeanwhile(t *testing.T) {
	b := filled(t, 190)
	b.now(1, "begin")
	b.fill(1, 5)
	b.now(2, "begin")
	b.fill(2, 6)
	b.fill(3, 5)
	if r := b.run(2, 1, false, "commit"); r.Err != api.ErrFull || r.Place != 195 {
		t.Errorf("%v", r)
	}
	if r := b.run(1, 1, false, "commit"); r.Err != api.OK || r.Place != 200 {
		t.Errorf("%v", r)
	}
}

// P15.3: whose entries are copied, and what the node is behind that.
func TestCopy(t *testing.T) {
	for _, r := range []struct {
		to, from string
		limit    int
		want     int
		then     string
	}{
		{"1F", "1L", 9, 0, "1F"},
		{"1F", "1F", 9, 0, "1F"},
		{"1L", "1F", 9, 0, "1L"},
		{"1L", "1L", 9, 0, "1L"},
		{"1F", "2L", 9, 0, "2F"},
		{"1L", "2L", 9, 0, "2F"},
		{"1L", "2F", 0, 0, "2F"},
		{"2F", "1L 1:p", 9, 0, "2F"},
		{"2L", "1L 1:p", 9, 0, "2L"},
		{"3L 1:p 2:q", "2L 1:p 2:r 2:s", 9, 0, "3L 1:p 2:q"},
		{"3F 1:p 2:q", "2L 1:p 2:r 2:s", 9, 0, "3F 1:p 2:q"},
		{"3F 1:p 2:q", "2F 1:p", 9, 0, "3F 1:p 2:q"},
		{"3L 1:p 3:q", "3L 1:p 3:r 3:s", 9, 0, "3L 1:p 3:q"},
		{"3L 1:p 3:q", "3F 1:p 3:q 3:s", 9, 0, "3L 1:p 3:q"},
		{"3L 1:p 3:q", "3F", 9, 0, "3L 1:p 3:q"},
		{"3F 1:p 3:q", "3L 1:p 3:q 3:s", 9, 1, "3F 1:p 3:q 3:s"},
		{"3F 1:p 3:q", "3F 1:p 3:q 3:s", 9, 1, "3F 1:p 3:q 3:s"},
		{"3F 1:p 3:q", "3L 1:p 3:r 3:s", 9, 2, "3F 1:p 3:r 3:s"},
		{"3F 1:p 3:q", "3L 1:p", 9, 0, "3F 1:p"},
		{"3F 1:p 3:q", "3L", 9, 0, "3F"},
		{"1L 1:p 1:q", "2L 1:p 2:r", 9, 1, "2F 1:p 2:r"},
		{"1F 1:p 1:q", "2L 1:p 2:r", 9, 1, "2F 1:p 2:r"},
		{"1L 1:p 1:q", "2F 1:p 2:r", 9, 1, "2F 1:p 2:r"},
		{"1L 1:p 1:q", "2L 1:p 2:r", 0, 0, "2F 1:p"},
		{"1L 1:p 1:q", "2L 1:p 2:r", -1, 0, "2F 1:p"},
		{"1L 1:p 1:q", "9L 1:p 1:q", 9, 0, "9F 1:p 1:q"},
		{"1L 1:p 1:q", "9L", 9, 0, "9F"},
		{"1L", "9L 1:p 9:q", 1, 1, "9F 1:p"},
		{"2F 1:p 1:q 1:r", "2L 1:x 1:q 1:r", 9, 3, "2F 1:x 1:q 1:r"},
		{"2F 1:p 1:q 1:r", "2L 1:p 1:x 1:r", 9, 2, "2F 1:p 1:x 1:r"},
		{"2F 1:p 1:q 1:r", "2L 1:p 1:q 1:x", 9, 1, "2F 1:p 1:q 1:x"},
		{"2F 1:p 1:q 1:r", "2L 1:p 1:x 1:r", 1, 1, "2F 1:p 1:x"},
		{"2F 1:p 1:q 1:r", "2L 1:q 1:r", 9, 2, "2F 1:q 1:r"},
		{"3F 1:p 1:q", "3L 2:p 2:q", 9, 2, "3F 2:p 2:q"},
		{"3F 1:p 1:q", "3L 2:p 2:q", 1, 1, "3F 2:p"},
		{"3F 1:p 1:q 1:r", "3L 1:p 2:q 2:r", 9, 2, "3F 1:p 2:q 2:r"},
		{"3F 1:p 1:q 1:r", "3L 1:p 1:q 2:r", 0, 0, "3F 1:p 1:q"},
		{"3F 1:p 1:p", "3L 1:p", 9, 0, "3F 1:p"},
		{"3F 1:p", "3L 1:p 1:p 1:p", 1, 1, "3F 1:p 1:p"},
		{"18446744073709551615F 1:p", "18446744073709551615L 1:p 2:q", 9, 1, "18446744073709551615F 1:p 2:q"},
		{"18446744073709551614L 1:p", "18446744073709551615L 1:p 2:q", 9, 1, "18446744073709551615F 1:p 2:q"},
	} {
		to, from := at(t, r.to), at(t, r.from)
		if n := to.Copy(from, r.limit); n != r.want {
			t.Errorf("%s of %s: %d, not %d", r.to, r.from, n, r.want)
		}
		checkState(t, to, r.then)
		checkState(t, from, r.from)
	}
}

// P15.3: of all logs that begin alike and go on apart, with most of each number.
func TestCopyMost(t *testing.T) {
	for common := range 4 {
		for mine := range 4 {
			for theirs := range 4 {
				for _, limit := range append([]int{math.MinInt, math.MinInt + 1, -1 << 32, -2, -1, 0, 1, 2, 3, 4, 5, 200, 201, 1 << 32, math.MaxInt - 1, math.MaxInt}, theirs-1, theirs, theirs+1) {
					head := strings.Repeat(" 1:p", common)
					to, from := at(t, "2F"+head+strings.Repeat(" 1:q", mine)), at(t, "2L"+head+strings.Repeat(" 2:q", theirs))
					want := max(0, min(theirs, limit))
					if n := to.Copy(from, limit); n != want {
						t.Errorf("%d, %d, %d: Copy of %d: %d", common, mine, theirs, limit, n)
					}
					checkState(t, to, "2F"+head+strings.Repeat(" 2:q", want))
				}
			}
		}
	}
}

// P15.3: a Copy from one of a later epoch drops all transactions, and one that is told to copy nothing none.
func TestCopyDrops(t *testing.T) {
	for _, r := range []struct {
		own, from uint64
		drops     bool
	}{{1, 2, true}, {3, 4, true}, {3, most, true}, {3, 3, false}, {3, 2, false}, {3, 1, false}, {most, most, false}, {most, 1, false}} {
		for _, limit := range []int{-1, 0, 1, 9} {
			b, from := begun(t, r.own), begun(t, r.from)
			b.copy(from, limit)
			if b.n.Leads() == r.drops || b.n.Epoch() != max(r.own, r.from) {
				t.Errorf("%v: epoch %d, leads %v", r, b.n.Epoch(), b.n.Leads())
			}
			for _, conn := range []int{1, 2} {
				if b.close(conn) == r.drops {
					t.Errorf("%v: the transaction of %d", r, conn)
				}
				if !from.close(conn) {
					t.Errorf("%v: the transaction of %d that was copied from", r, conn)
				}
			}
		}
	}
}

// P15.3: what waits in a transaction isn't copied till it is laid.
func TestCopyOfWaiting(t *testing.T) {
	from, to := at(t, "1L 1:p"), at(t, "1F")
	checkRows(t, from, row{1, "begin", api.OK, 1, ""}, row{1, "q", api.OK, 1, ""})
	if to.Copy(from, 9) != 1 || to.Close(1) {
		t.Error("Copy of what waits")
	}
	checkState(t, to, "1F 1:p")
	checkRows(t, from, row{1, "commit", api.OK, 2, ""})
	if to.Copy(from, 9) != 1 || to.Copy(from, 9) != 0 {
		t.Error("Copy of what was laid")
	}
	checkState(t, to, "1F 1:p 1:q")
}

// P15.3: a node that copies from itself stays as it is.
func TestCopyOfItself(t *testing.T) {
	for _, s := range []string{"1F", "1L", "2F 1:p 2:q", "2L 1:p 2:q"} {
		for _, limit := range conns() {
			n := at(t, s)
			has := n.Run(1, n.Epoch(), false, "begin").Err == api.OK
			if n.Copy(n, limit) != 0 {
				t.Errorf("%s: Copy of %d", s, limit)
			}
			checkState(t, n, s)
			if n.Close(1) != has {
				t.Errorf("%s: the transaction", s)
			}
		}
	}
}

// P15.3, P15.4: what is copied in parts is what is copied at once: to the end it is the same.
func TestCopyInParts(t *testing.T) {
	for _, own := range []string{"1F", "1L 1:p 1:q", "2F 1:p 1:p 1:p", "3L 1:p 2:p 2:p 2:p 2:p 3:p 3:p 3:p 3:p 3:p", "4F 3:x"} {
		for parts := 1; parts < 12; parts++ {
			theirs := "4L 1:p 2:p 2:p 2:p 2:p 2:q 3:p 4:p 4:p 4:q"
			from, once, n := at(t, theirs), at(t, own), at(t, own)
			count := once.Copy(from, math.MaxInt)
			for range 12 {
				count -= n.Copy(from, parts)
			}
			if count != 0 {
				t.Errorf("%s in parts of %d: %d too few", own, parts, count)
			}
			checkState(t, n, "4F"+theirs[2:])
			checkState(t, once, "4F"+theirs[2:])
		}
	}
}

// P15.3: a full log is copied whole, and its table is the same.
func TestCopyOfFull(t *testing.T) {
	from := filled(t, api.MostLog-1)
	from.now(1, putA)
	for _, limit := range []int{199, 200, 201, math.MaxInt} {
		to := newBoth(t)
		if n := to.copy(from, limit); n != min(limit, 200) {
			t.Errorf("Copy of %d: %d", limit, n)
		}
		to.copy(from, 1)
		if !slices.Equal(to.n.Table(), from.n.Table()) || len(to.n.Table()) != 1 {
			t.Errorf("%v", to.n.Table())
		}
		to.lead(2)
		checkRows(t, to.n, row{1, "foo", api.ErrFull, 200, ""})
	}
}

// P15.1, P15.3, P15.4: a node that was copied to leads, and lays in its own epoch; the one that led before is refused, and comes to the same log.
func TestPromotion(t *testing.T) {
	a, b := at(t, "1L"), at(t, "1F")
	checkRows(t, a, row{1, "p", api.OK, 1, ""}, row{1, "q", api.OK, 2, ""})
	b.Copy(a, 1)
	if !b.Lead(2) {
		t.Error("Lead")
	}
	checkRows(t, a, row{1, "r", api.OK, 3, ""}, row{9, "begin", api.OK, 3, ""})
	checkRun(t, a, 1, 2, false, "s", node.Reply{Err: api.ErrStale, Epoch: 1, Place: 3})
	checkRows(t, b, row{1, "t", api.OK, 2, ""})
	checkRun(t, b, 1, 1, false, "s", node.Reply{Err: api.ErrStale, Epoch: 2, Place: 2})
	if b.Copy(a, 9) != 0 || a.Copy(b, 9) != 1 || a.Close(9) {
		t.Error("Copy")
	}
	checkState(t, a, "2F 1:p 2:t")
	checkState(t, b, "2L 1:p 2:t")
	checkRun(t, a, 1, 2, false, "s", node.Reply{Err: api.ErrState, Epoch: 2, Place: 2})
}

// R3: who was handed a list changes nothing of the node by it.
func TestHandedOut(t *testing.T) {
	b := begun(t, 3)
	b.now(1, putA2)
	log, table := b.n.Log(), b.n.Table()
	log[0], table[0] = node.Entry{Epoch: 9, Text: "x"}, plan.Pair{Key: "x", Value: "y"}
	_ = append(log[:0], log[0], log[0])
	for _, conn := range []int{1, 3} {
		for _, text := range []string{all, getA} {
			texts := b.run(conn, 3, true, text).Texts
			for i := range texts {
				texts[i] = "x"
			}
			b.run(conn, 3, false, text)
		}
	}
	b.now(1, "commit")
	b.now(2, putB)
	b.check("handed out")
}

// R3: what a caller was handed stays as it was, whatever the node does.
func TestHandedOutStays(t *testing.T) {
	for _, acts := range []func(n, other *node.Node){
		func(n, _ *node.Node) { n.Run(3, n.Epoch(), false, putA2) },
		func(n, _ *node.Node) { n.Run(1, n.Epoch(), false, "commit") },
		func(n, other *node.Node) { n.Copy(other, 9) },
		func(n, other *node.Node) { n.Copy(other, 1); n.Lead(5); n.Run(3, 5, false, delA) },
	} {
		b := begun(t, 3)
		b.now(3, "foo", "bar", putB)
		other := at(t, "4L 2:x 2:y 2:z 2:p 4:q")
		log, table, texts := b.n.Log(), b.n.Table(), b.n.Run(1, 3, true, all).Texts
		wasLog, wasTable, wasTexts := slices.Clone(log), slices.Clone(table), slices.Clone(texts)
		acts(b.n, other)
		if !slices.Equal(log, wasLog) || !slices.Equal(table, wasTable) || !slices.Equal(texts, wasTexts) || len(texts) != 4 {
			t.Errorf("%v, %v, %v", log, table, texts)
		}
	}
}

// R3: a node that was copied from, and those that copied, change nothing of each other.
func TestCopiesApart(t *testing.T) {
	for size := range 20 {
		a, b, c := filled(t, size), newBoth(t), newBoth(t)
		b.copy(a, 99)
		c.copy(b, 99)
		a.now(1, "p", "q")
		b.lead(2)
		b.now(1, "r")
		c.lead(3)
		c.now(1, "s", "begin", "t", "commit")
		a.check("a")
		b.check("b")
		a.copy(c, 1)
		c.now(1, "u")
		a.copy(b, 9)
		b.copy(c, 9)
		b.lead(4)
		b.now(1, "v")
		c.copy(b, 2)
		for _, x := range []*both{a, b, c} {
			x.check("in the end")
		}
	}
}

// acts of one node, which are told by its epoch.
func ownActs() []func(b *both) {
	run := func(conn int, text string) func(b *both) {
		return func(b *both) { b.run(conn, b.m.epoch, false, text) }
	}
	return []func(b *both){
		func(b *both) { b.lead(b.m.epoch) },
		func(b *both) { b.lead(b.m.epoch + 1) },
		func(b *both) { b.close(1) },
		run(1, "begin"), run(1, putA), run(1, all), run(1, "commit"), run(1, "rollback"),
		run(2, "begin"), run(2, newA), run(2, all), run(2, "commit"),
	}
}

// P15.1, P15.2: all short lists of acts, held against a node that is told in another way.
func TestShortLists(t *testing.T) {
	acts := ownActs()
	total := 1
	for range 4 {
		total *= len(acts)
	}
	for list := range total {
		b := newBoth(t)
		b.lead(1)
		for rest := list; rest > 0; rest /= len(acts) {
			acts[rest%len(acts)](b)
		}
	}
}

// P15.3: all short lists of acts of two nodes that copy from each other.
func TestShortCopies(t *testing.T) {
	acts := []func(a, b *both){
		func(a, b *both) { a.lead(a.m.epoch) },
		func(a, b *both) { b.lead(b.m.epoch + 1) },
		func(a, b *both) { a.run(1, a.m.epoch, false, putA) },
		func(a, b *both) { b.run(1, b.m.epoch, false, putB) },
		func(a, b *both) { a.run(1, a.m.epoch, false, "begin") },
		func(a, b *both) { a.copy(b, 1) },
		func(a, b *both) { b.copy(a, 1) },
		func(a, b *both) { a.copy(b, math.MaxInt) },
		func(a, b *both) { b.copy(a, -1) },
	}
	total := 1
	for range 5 {
		total *= len(acts)
	}
	for list := range total {
		a, b := newBoth(t), newBoth(t)
		for rest := list; rest > 0; rest /= len(acts) {
			acts[rest%len(acts)](a, b)
		}
	}
}

// draw lets one of the nodes do what is drawn.
func draw(r *rand.Rand, nodes []*both) {
	b := nodes[r.Intn(len(nodes))]
	own, l := b.m.epoch, statements()
	switch do := r.Intn(30); {
	case do == 0:
		b.lead(own + uint64(r.Intn(3)) - 1)
	case do == 1:
		b.close(r.Intn(3) - 1)
	case do < 6:
		b.copy(nodes[r.Intn(len(nodes))], []int{-1, 0, 1, 2, 3, math.MaxInt}[r.Intn(6)])
	case do < 8:
		b.run(r.Intn(3)-1, own+uint64(r.Intn(3))-1, r.Intn(2) == 0, l[r.Intn(len(l))].text)
	case do < 14:
		l := ofKind(r.Intn(class.Unknown + 1))
		b.run(r.Intn(3)-1, own, r.Intn(5) == 0, l[r.Intn(len(l))])
	default:
		b.run(r.Intn(3)-1, own, r.Intn(5) == 0, l[r.Intn(len(l))].text)
	}
}

// P15.1 to P15.3: many acts drawn, on three nodes, held against nodes that are told in another way.
func TestDrawn(t *testing.T) {
	r := rand.New(rand.NewSource(15))
	for range 800 {
		nodes := []*both{newBoth(t), newBoth(t), newBoth(t)}
		nodes[0].lead(1)
		for range 80 {
			draw(r, nodes)
		}
	}
}

// P15.2, P15.3: many acts drawn, on nodes whose logs are nearly full.
func TestDrawnFull(t *testing.T) {
	r := rand.New(rand.NewSource(16))
	for range 10 {
		nodes := []*both{filled(t, 190), filled(t, 196), newBoth(t)}
		nodes[2].copy(nodes[0], 195)
		for range 60 {
			draw(r, nodes)
		}
	}
}

// P15.4: an entry is laid by what isn't a read alone, in the epoch that the node leads, by who named that epoch; a log only grows, but by Copy; of a transaction all is laid, or nothing; what is copied to the end is the same.
func TestWhatFollows(t *testing.T) {
	r := rand.New(rand.NewSource(17))
	l := statements()
	for range 200 {
		n, m := at(t, "1L"), at(t, "1F")
		waiting := 0
		for range 60 {
			before, led := n.Log(), n.Epoch()
			s, epoch, conn := l[r.Intn(len(l))], led+uint64(r.Intn(5)/4), r.Intn(2)
			reply := n.Run(conn, epoch, false, s.text)
			behind := n.Log()
			if len(behind) < len(before) || !slices.Equal(behind[:len(before)], before) {
				t.Fatalf("%q: the log doesn't grow: %v, %v", s.text, before, behind)
			}
			next := behind[len(before):]
			for _, e := range next {
				if kind := known(e.Text).kind; e.Epoch != led || epoch != led || kind != class.Write && kind != class.Unknown {
					t.Fatalf("%q in %d: %v", s.text, epoch, e)
				}
			}
			is := reply.Err == api.OK
			switch {
			case conn == 1 && is && s.kind == class.Begin:
				waiting = 0
			case conn == 1 && is && s.kind == class.Commit && len(next) != waiting:
				t.Fatalf("%d of %d laid", len(next), waiting)
			case conn == 1 && is && len(next) == 0 && (s.kind == class.Write || s.kind == class.Unknown):
				waiting++
			case !is && len(next) > 0:
				t.Fatalf("%q: %v", s.text, reply)
			}
			if r.Intn(20) == 0 {
				n.Lead(led + uint64(r.Intn(2)))
			}
			if m.Copy(n, r.Intn(4)) == 0 {
				m.Copy(n, math.MaxInt)
			}
		}
		m.Copy(n, math.MaxInt)
		if !slices.Equal(m.Log(), n.Log()) || !slices.Equal(m.Table(), n.Table()) || m.Epoch() != n.Epoch() {
			t.Fatalf("%v, %v", m.Log(), n.Log())
		}
	}
}

// R4, R5: a node answers the same whatever another one does between, as nothing is kept but what each one holds.
func TestSideBySide(t *testing.T) {
	l := statements()
	answers := func(r *rand.Rand, beside *node.Node) []string {
		n := at(t, "1L")
		var told []string
		for i := range 300 {
			text := l[r.Intn(len(l))].text
			told = append(told, fmt.Sprint(n.Run(r.Intn(3), n.Epoch(), r.Intn(5) == 0, text), state(n), n.Table()))
			if i%50 == 49 {
				told = append(told, fmt.Sprint(n.Close(1), n.Lead(n.Epoch()+uint64(i%3))))
			}
			if beside != nil {
				beside.Run(i%3, beside.Epoch(), false, l[(i*7)%len(l)].text)
				beside.Lead(uint64(i / 9))
				beside.Close(i % 2)
			}
		}
		return told
	}
	want := answers(rand.New(rand.NewSource(18)), nil)
	for _, beside := range []*node.Node{nil, node.New(), at(t, "2L 1:p 2:q")} {
		if !slices.Equal(answers(rand.New(rand.NewSource(18)), beside), want) {
			t.Error("other answers")
		}
	}
}
