package probe_test

import (
	"fmt"
	"math"
	"math/rand"
	"slices"
	"strings"
	"testing"

	"signalman/api"
	"signalman/probe"
)

// far is the greatest time that a Tick may be told.
const far = 1 << 32

// set is how a plan is made.
type set struct {
	nodes       int
	every, late uint64
}

func (s set) String() string {
	return fmt.Sprintf("%d nodes, every %d, late %d", s.nodes, s.every, s.late)
}

func mustNew(t *testing.T, s set) *probe.Plan {
	t.Helper()
	p, e := probe.New(s.nodes, s.every, s.late)
	if p == nil || e != api.OK {
		t.Fatalf("New of %v: %v, %d", s, p, e)
	}
	return p
}

// writeAsks writes who is asked, by its probe's number: "0:1 2:2".
func writeAsks(asks []probe.Ask) string {
	var l []string
	for _, a := range asks {
		l = append(l, fmt.Sprintf("%d:%d", a.Node, a.Number))
	}
	return strings.Join(l, " ")
}

// writeNodes writes nodes: "0 2".
func writeNodes(nodes []int) string { return strings.Trim(fmt.Sprint(nodes), "[]") }

func checkTick(t *testing.T, p *probe.Plan, now uint64, asks, late string) {
	t.Helper()
	a, l := p.Tick(now)
	if writeAsks(a) != asks || writeNodes(l) != late {
		t.Errorf("Tick(%d): asks %q, late %q, not %q, %q", now, writeAsks(a), writeNodes(l), asks, late)
	}
}

func checkAnswer(t *testing.T, p *probe.Plan, node int, number uint64, want bool) {
	t.Helper()
	if is := p.Answer(node, number); is != want {
		t.Errorf("Answer(%d, %d): %v", node, number, is)
	}
}

// noNodes are places that are no node of a plan of so many.
func noNodes(nodes int) []int {
	return []int{-1, -2, nodes, nodes + 1, api.MostNodes, api.MostNodes + 1, -api.MostNodes, 256, 1 << 31, -1 << 31, 1 << 32, 1<<32 + 1, -1 << 32, math.MaxInt - 1, math.MaxInt, math.MinInt, math.MinInt + 1}
}

// checkLook holds what a plan tells of itself against "0@5 2@6": none is out of node 0, which is due at 5, and 2 is out of node 1. It asks twice, as to ask changes nothing.
func checkLook(t *testing.T, p *probe.Plan, want string) {
	t.Helper()
	nodes := len(strings.Fields(want))
	for range 2 {
		if is := lookAt(p, nodes); is != want {
			t.Errorf("the plan: %s, not %s", is, want)
		}
		for _, no := range noNodes(nodes) {
			if p.Out(no) != 0 || p.Due(no) != 0 {
				t.Errorf("place %d of %d nodes: out %d, due %d", no, nodes, p.Out(no), p.Due(no))
			}
		}
	}
}

func lookAt(p *probe.Plan, nodes int) string {
	var l []string
	for i := range nodes {
		l = append(l, fmt.Sprintf("%d@%d", p.Out(i), p.Due(i)))
	}
	return strings.Join(l, " ")
}

// fresh is the look of a plan that was asked nothing.
func fresh(nodes int) string {
	return strings.Join(strings.Fields("0@0 0@1 0@2 0@3 0@4 0@5")[:nodes], " ")
}

// P13.1, P13.2: the document's example, and the names of what is told.
func TestPlan(t *testing.T) {
	p, e := probe.New(2, 5, 2)
	if e != api.OK {
		t.Fatal(e)
	}
	asks, late := p.Tick(0)
	if !slices.Equal(asks, []probe.Ask{{Node: 0, Number: 1}}) || len(late) != 0 {
		t.Errorf("Tick(0): %v, %v", asks, late)
	}
	checkLook(t, p, "1@5 0@1")
	asks, late = p.Tick(1)
	if !slices.Equal(asks, []probe.Ask{{Node: 1, Number: 2}}) || len(late) != 0 {
		t.Errorf("Tick(1): %v, %v", asks, late)
	}
	checkLook(t, p, "1@5 2@6")
	asks, late = p.Tick(2)
	if len(asks) != 0 || !slices.Equal(late, []int{0}) {
		t.Errorf("Tick(2): %v, %v", asks, late)
	}
	checkLook(t, p, "0@5 2@6")
}

// P13.1: New at each edge; none of a new plan's probes is out, and each node is due at its number.
func TestNew(t *testing.T) {
	for nodes := 1; nodes <= api.MostNodes; nodes++ {
		for _, every := range []uint64{1, 2, 500, api.MostTime - 1, api.MostTime} {
			for _, late := range []uint64{1, 2, 500, api.MostTime - 1, api.MostTime} {
				p := mustNew(t, set{nodes, every, late})
				checkLook(t, p, fresh(nodes))
				for i := range nodes {
					checkAnswer(t, p, i, 0, false)
					checkAnswer(t, p, i, 1, false)
				}
				checkLook(t, p, fresh(nodes))
			}
		}
	}
}

// P13.1, R2: New of what may not be, each alone and all together.
func TestNewWrong(t *testing.T) {
	wrong := func(s set) {
		if p, e := probe.New(s.nodes, s.every, s.late); p != nil || e != api.ErrArg {
			t.Errorf("New of %v: %v, %d", s, p, e)
		}
	}
	times := []uint64{0, api.MostTime + 1, api.MostTime + 2, 2 * api.MostTime, 1 << 16, 1<<16 + 1, 1 << 32, 1<<32 + 1, 1 << 63, 1<<63 + 1, math.MaxUint64 - 1, math.MaxUint64}
	for _, nodes := range []int{0, -1, -6, api.MostNodes + 1, api.MostNodes + 2, 256, 257, 1 << 32, 1<<32 + 1, math.MaxInt, math.MinInt, math.MinInt + 1} {
		wrong(set{nodes, 1, 1})
		wrong(set{nodes, api.MostTime, api.MostTime})
		wrong(set{nodes, 0, 0})
	}
	for _, n := range times {
		for _, right := range []uint64{1, 7, api.MostTime} {
			for nodes := 1; nodes <= api.MostNodes; nodes++ {
				wrong(set{nodes, n, right})
				wrong(set{nodes, right, n})
			}
		}
		wrong(set{0, n, n})
		wrong(set{3, n, n})
	}
}

// P13.1: places that are no node tell 0 and take no answer, ahead of the first Tick, behind one, behind an answer, and behind one that is late.
func TestNoSuchNode(t *testing.T) {
	for nodes := 1; nodes <= api.MostNodes; nodes++ {
		p := mustNew(t, set{nodes, 9, 3})
		check := func() {
			t.Helper()
			look := lookAt(p, nodes)
			for _, no := range noNodes(nodes) {
				for number := range uint64(api.MostNodes + 2) {
					checkAnswer(t, p, no, number, false)
				}
			}
			checkLook(t, p, look)
		}
		check()
		p.Tick(5)
		check()
		checkAnswer(t, p, nodes-1, uint64(nodes), true)
		check()
		p.Tick(8)
		check()
		p.Tick(14)
		check()
	}
}

// P13.2: at first a node is due at its number: the first Tick, at each node's number and one less, asks those that are due by then, and no others.
func TestFirstTick(t *testing.T) {
	for nodes := 1; nodes <= api.MostNodes; nodes++ {
		for now := range uint64(api.MostNodes + 2) {
			var asks, look []string
			for i := range nodes {
				if uint64(i) <= now {
					asks = append(asks, fmt.Sprintf("%d:%d", i, i+1))
					look = append(look, fmt.Sprintf("%d@%d", i+1, now+20))
				} else {
					look = append(look, fmt.Sprintf("0@%d", i))
				}
			}
			p := mustNew(t, set{nodes, 20, 20})
			checkTick(t, p, now, strings.Join(asks, " "), "")
			checkLook(t, p, strings.Join(look, " "))
		}
	}
	p := mustNew(t, set{3, 1000, 1000})
	checkTick(t, p, far, "0:1 1:2 2:3", "")
	checkLook(t, p, "1@4294968296 2@4294968296 3@4294968296")
	p = mustNew(t, set{1, 1, 1})
	checkTick(t, p, far, "0:1", "")
	checkLook(t, p, "1@4294967297")
}

// P13.2: a now that was told already asks nobody and finds nobody late that the Tick ahead of it didn't; but who answered in between is not asked before it is due.
func TestSameNow(t *testing.T) {
	p := mustNew(t, set{3, 1, 1})
	for now := uint64(2); now < 9; now++ {
		p.Tick(now)
		look := lookAt(p, 3)
		for range 3 {
			checkTick(t, p, now, "", "")
			checkLook(t, p, look)
		}
	}
	checkAnswer(t, p, 1, p.Out(1), true)
	checkTick(t, p, 8, "", "")
	checkLook(t, p, "19@9 0@9 21@9")
	checkTick(t, p, 9, "0:22 1:23 2:24", "0 2")
}

// P13.2: a probe is late just late time units behind the Tick that asked, and later, but not one earlier.
func TestLate(t *testing.T) {
	for _, late := range []uint64{1, 2, 3, 7, 999, 1000} {
		for _, at := range []uint64{0, 1, 5, 77, far - 2000} {
			for _, behind := range []uint64{0, 1, 2, 50, 999} {
				p := mustNew(t, set{1, 1000, late})
				checkTick(t, p, at, "0:1", "")
				checkTick(t, p, at+late-1, "", "")
				checkLook(t, p, fmt.Sprintf("1@%d", at+1000))
				checkTickLate(t, p, at+late+behind, at)
			}
			p := mustNew(t, set{1, 1000, late})
			checkTick(t, p, at, "0:1", "")
			checkTick(t, p, far, "0:2", "0")
			checkLook(t, p, fmt.Sprintf("2@%d", uint64(far+1000)))
		}
	}
}

// checkTickLate: the node that was asked at a time is late now, and is asked again where 1000 time units went by.
func checkTickLate(t *testing.T, p *probe.Plan, now, asked uint64) {
	t.Helper()
	if now-asked < 1000 {
		checkTick(t, p, now, "", "0")
		checkLook(t, p, fmt.Sprintf("0@%d", asked+1000))
		checkTick(t, p, now, "", "")
	} else {
		checkTick(t, p, now, "0:2", "0")
		checkLook(t, p, fmt.Sprintf("2@%d", now+1000))
	}
	checkAnswer(t, p, 0, 1, false)
}

// P13.2: a node is due just every time units behind the Tick that asked, and later, but not one earlier; whether its probe was answered or late.
func TestDue(t *testing.T) {
	for _, every := range []uint64{2, 3, 7, 999, 1000} {
		for _, at := range []uint64{0, 1, 5, 77, far - 2000} {
			for _, more := range []uint64{0, 1, 2, 900, 1999 - every} {
				answered, late := mustNew(t, set{1, every, 1}), mustNew(t, set{1, every, 1})
				checkTick(t, answered, at, "0:1", "")
				checkAnswer(t, answered, 0, 1, true)
				checkLook(t, answered, fmt.Sprintf("0@%d", at+every))
				checkTick(t, answered, at+every-1, "", "")
				checkTick(t, late, at, "0:1", "")
				checkTick(t, late, at+every-1, "", "0")
				for _, p := range []*probe.Plan{answered, late} {
					checkLook(t, p, fmt.Sprintf("0@%d", at+every))
					checkTick(t, p, at+every+more, "0:2", "")
					checkLook(t, p, fmt.Sprintf("2@%d", at+every+more+every))
				}
			}
		}
	}
}

// P13.2: while a probe is out its node isn't asked, though it is due; late may be less than every, the same, or greater.
func TestLateAndEvery(t *testing.T) {
	p := mustNew(t, set{1, 5, 3}) // less
	checkTick(t, p, 0, "0:1", "")
	checkTick(t, p, 3, "", "0")
	checkTick(t, p, 4, "", "")
	checkTick(t, p, 5, "0:2", "")
	p = mustNew(t, set{1, 5, 5}) // the same: late and asked in one Tick
	checkTick(t, p, 0, "0:1", "")
	checkTick(t, p, 4, "", "")
	checkTick(t, p, 5, "0:2", "0")
	checkTick(t, p, 11, "0:3", "0")
	p = mustNew(t, set{1, 3, 5}) // greater
	checkTick(t, p, 0, "0:1", "")
	for now := uint64(1); now < 5; now++ {
		checkTick(t, p, now, "", "")
		checkLook(t, p, "1@3")
	}
	checkTick(t, p, 5, "0:2", "0")
	checkLook(t, p, "2@8")
	checkTick(t, p, 8, "", "")
	checkAnswer(t, p, 0, 2, true)
	checkLook(t, p, "0@8")
	checkTick(t, p, 8, "0:3", "") // it was due all the while
	checkLook(t, p, "3@11")
	p = mustNew(t, set{2, 1, 1000})
	checkTick(t, p, 7, "0:1 1:2", "")
	checkTick(t, p, 1006, "", "")
	checkLook(t, p, "1@8 2@8")
	checkTick(t, p, 1007, "0:3 1:4", "0 1")
}

// P13.2: several that are late and several that are asked in one Tick, rising, of 1, 2 and up to MostNodes nodes; of those that are late some, all or none are asked too.
func TestSeveral(t *testing.T) {
	for nodes := 1; nodes <= api.MostNodes; nodes++ {
		for answers := range 1 << nodes { // a bit for each node that answers
			p := mustNew(t, set{nodes, 10, 4})
			p.Tick(20)
			var late, asks, look []string
			for i := range nodes {
				if answers>>i&1 == 1 {
					checkAnswer(t, p, i, uint64(i+1), true)
				} else {
					late = append(late, fmt.Sprint(i))
				}
				asks = append(asks, fmt.Sprintf("%d:%d", i, nodes+i+1))
				look = append(look, fmt.Sprintf("%d@40", nodes+i+1))
			}
			checkTick(t, p, 30, strings.Join(asks, " "), strings.Join(late, " "))
			checkLook(t, p, strings.Join(look, " "))
		}
	}
}

// P13.2: some are late in a Tick that asks others.
func TestLateBesideAsked(t *testing.T) {
	p := mustNew(t, set{6, 6, 3})
	for now, want := range []struct{ asks, late string }{{"0:1", ""}, {"1:2", ""}, {"2:3", ""}, {"3:4", "0"}, {"4:5", "1"}, {"5:6", "2"}, {"0:7", "3"}, {"1:8", "4"}, {"2:9", "5"}, {"3:10", "0"}, {"4:11", "1"}} {
		checkTick(t, p, uint64(now), want.asks, want.late)
	}
	checkLook(t, p, "0@12 0@13 9@14 10@15 11@16 0@11")
	checkTick(t, p, 14, "0:12 1:13 2:14 5:15", "2 3 4")
	checkTick(t, p, 16, "3:16 4:17", "")
}

// P13.1, P13.2: numbers are 1, 2 and so on, one behind the other over all nodes, whoever is asked.
func TestNumbers(t *testing.T) {
	p := mustNew(t, set{6, 2, 1})
	next := uint64(1)
	for now := uint64(0); now < 30000; now++ {
		asks, _ := p.Tick(now)
		for _, a := range asks {
			if a.Number != next || p.Out(a.Node) != next {
				t.Fatalf("Tick(%d): %v, not %d; out %d", now, a, next, p.Out(a.Node))
			}
			next++
		}
	}
	if next < 89990 {
		t.Errorf("only %d were asked", next-1)
	}
}

// P13.3: the probe that is out is answered once; no other number is, of that node or of another one, nor 0; and what isn't answered changes nothing.
func TestAnswer(t *testing.T) {
	p := mustNew(t, set{3, 10, 4})
	p.Tick(1)
	const look = "1@11 2@11 0@2"
	for node, out := range []uint64{1, 2, 0} {
		for _, number := range []uint64{0, 1, 2, 3, 4, 255, 256, 257, 1 << 32, 1<<32 + 1, 1<<32 + 2, math.MaxUint64, math.MaxUint64 - 1} {
			if number != out || number == 0 {
				checkAnswer(t, p, node, number, false)
				checkLook(t, p, look)
			}
		}
	}
	checkAnswer(t, p, 1, 2, true)
	checkLook(t, p, "1@11 0@11 0@2")
	for number := range uint64(4) {
		checkAnswer(t, p, 1, number, false)
	}
	checkLook(t, p, "1@11 0@11 0@2")
	checkTick(t, p, 5, "2:3", "0")
	checkAnswer(t, p, 0, 1, false) // it was late
	checkAnswer(t, p, 2, 3, true)
	checkTick(t, p, 11, "0:4 1:5", "")
	checkAnswer(t, p, 0, 1, false) // an earlier one
	checkAnswer(t, p, 0, 5, false) // a later one, of another node
	checkAnswer(t, p, 0, 6, false)
	checkAnswer(t, p, 0, 4, true)
	checkLook(t, p, "0@21 5@21 0@15")
}

// P13.2, P13.3: an answer is taken as long as no Tick told that its probe is late, and a probe that was answered is never late.
func TestAnswerInTime(t *testing.T) {
	for _, late := range []uint64{1, 2, 9} {
		p := mustNew(t, set{1, 10, late})
		checkTick(t, p, 0, "0:1", "")
		checkTick(t, p, late-1, "", "")
		checkAnswer(t, p, 0, 1, true)
		checkTick(t, p, late, "", "")
		checkTick(t, p, 10, "0:2", "")
		checkTick(t, p, 10+late, "", "0")
		checkAnswer(t, p, 0, 2, false)
		checkLook(t, p, "0@20")
	}
	p := mustNew(t, set{2, 10, 10}) // at just late, ahead of the Tick
	checkTick(t, p, 3, "0:1 1:2", "")
	checkTick(t, p, 12, "", "")
	checkAnswer(t, p, 1, 2, true)
	checkTick(t, p, 13, "0:3 1:4", "0")
	checkAnswer(t, p, 0, 1, false)
	checkAnswer(t, p, 1, 2, false)
	checkLook(t, p, "3@23 4@23")
}

// call is one of T (Tick, n time units behind the one ahead) and A (Answer of n).
type call struct {
	do   byte
	node int
	n    uint64
}

func (c call) String() string { return fmt.Sprintf("%c(%d,%d)", c.do, c.node, c.n) }

// sent is a probe, as it befell; what became of it is out, 'a' (answered) or 'l' (late).
type sent struct {
	node int
	at   uint64
	is   byte
}

// model is a plan in another form: it keeps every probe that ever was, and tells all by these.
type model struct {
	set
	sent []*sent
	now  uint64
}

// last is a node's last probe; nil, if there was none.
func (m *model) last(node int) *sent {
	for _, s := range slices.Backward(m.sent) {
		if s.node == node {
			return s
		}
	}
	return nil
}

func (m *model) due(node int) uint64 {
	if s := m.last(node); s != nil {
		return s.at + m.every
	}
	return uint64(node)
}

func (m *model) out(node int) uint64 {
	for i, s := range m.sent {
		if s.node == node && s.is == 0 {
			return uint64(i + 1)
		}
	}
	return 0
}

func (m *model) answer(node int, number uint64) bool {
	if number < 1 || number > uint64(len(m.sent)) {
		return false
	}
	s := m.sent[number-1]
	if s.node != node || s.is != 0 {
		return false
	}
	s.is = 'a'
	return true
}

// tick writes whom it asks and who is late.
func (m *model) tick(now uint64) (asks, late string) {
	m.now = now
	var gone []int
	for _, s := range m.sent {
		if s.is == 0 && now-s.at >= m.late {
			s.is = 'l'
			gone = append(gone, s.node)
		}
	}
	slices.Sort(gone)
	var asked []probe.Ask
	for node := range m.nodes {
		if m.out(node) == 0 && m.due(node) <= now {
			m.sent = append(m.sent, &sent{node: node, at: now})
			asked = append(asked, probe.Ask{Node: node, Number: uint64(len(m.sent))})
		}
	}
	return writeAsks(asked), writeNodes(gone)
}

func (m *model) look() string {
	var l []string
	for i := range m.nodes {
		l = append(l, fmt.Sprintf("%d@%d", m.out(i), m.due(i)))
	}
	return strings.Join(l, " ")
}

// do makes a call of a plan and of its model, and tells how they differ; "", if they don't.
func do(p *probe.Plan, m *model, c call) string {
	var is, want string
	switch c.do {
	case 'T':
		now := m.now + c.n
		asks, late := p.Tick(now)
		is = "asks " + writeAsks(asks) + ", late " + writeNodes(late)
		a, l := m.tick(now)
		want = "asks " + a + ", late " + l
	case 'A':
		is, want = fmt.Sprint(p.Answer(c.node, c.n)), fmt.Sprint(m.answer(c.node, c.n))
	}
	is += "; " + lookAt(p, m.nodes)
	want += "; " + m.look()
	if is != want {
		return fmt.Sprintf("%v, %v behind %d: %s\nnot %s", m.set, c, m.now, is, want)
	}
	return ""
}

// shortCalls are all lists of so many calls: Ticks, and Answers of the first numbers.
func shortCalls(many int) [][]call {
	each := []call{{'T', 0, 0}, {'T', 0, 1}, {'T', 0, 2}, {'A', 0, 1}, {'A', 1, 2}, {'A', 0, 2}, {'A', 0, 3}}
	lists := [][]call{nil}
	for range many {
		var next [][]call
		for _, l := range lists {
			for _, c := range each {
				next = append(next, append(slices.Clone(l), c))
			}
		}
		lists = next
	}
	return lists
}

// P13.1, P13.2, P13.3: all short lists of calls, against the model, of every and late less than each other, the same and greater.
func TestShortCalls(t *testing.T) {
	lists := shortCalls(5)
	for _, s := range []set{{1, 1, 1}, {1, 2, 1}, {1, 1, 2}, {1, 3, 2}, {2, 1, 1}, {2, 2, 2}, {2, 2, 1}, {2, 1, 2}, {2, 1, 3}, {2, 3, 1}} {
		for _, l := range lists {
			p, m := mustNew(t, s), &model{set: s}
			for i, c := range l {
				if wrong := do(p, m, c); wrong != "" {
					t.Fatalf("%v: %s", l[:i+1], wrong)
				}
			}
		}
	}
}

// drawnSet is a plan whose every and late are mostly small.
func drawnSet(draws *rand.Rand) set {
	time := func() uint64 { return uint64(1 + draws.Intn([]int{2, 5, 20, api.MostTime}[draws.Intn(4)])) }
	return set{1 + draws.Intn(api.MostNodes), time(), time()}
}

// drawnCall is a call that a plan may be asked next: mostly an Answer of what is out, else of a number nearby, or of a place that is no node.
func drawnCall(draws *rand.Rand, m *model, steps int) call {
	if draws.Intn(3) == 0 {
		return call{do: 'T', n: uint64(draws.Intn(steps))}
	}
	node := draws.Intn(m.nodes)
	switch draws.Intn(6) {
	case 0:
		return call{'A', node, uint64(max(0, len(m.sent)+2-draws.Intn(9)))}
	case 1:
		return call{'A', draws.Intn(m.nodes), m.out(node)}
	case 2:
		no := noNodes(m.nodes)
		return call{'A', no[draws.Intn(len(no))], m.out(node)}
	}
	return call{'A', node, m.out(node)}
}

// P13.1 to P13.4: drawn calls, against the model.
func TestDrawnCalls(t *testing.T) {
	draws := rand.New(rand.NewSource(13))
	for range 400 {
		s := drawnSet(draws)
		p, m := mustNew(t, s), &model{set: s}
		steps := []int{2, 3, int(s.every) + 2, int(s.late) + 2, 3000}[draws.Intn(5)]
		if draws.Intn(4) == 0 {
			if wrong := do(p, m, call{do: 'T', n: far - 1000000}); wrong != "" {
				t.Fatal(wrong)
			}
		}
		for range 300 {
			if wrong := do(p, m, drawnCall(draws, m, steps)); wrong != "" {
				t.Fatal(wrong)
			}
		}
	}
}

// P13.4: each node is asked once in every time units, at most; each probe is answered, late, or out, and none is two of these; told by what the plan answers alone.
func TestEachOnce(t *testing.T) {
	draws := rand.New(rand.NewSource(134))
	for range 300 {
		s := drawnSet(draws)
		p := mustNew(t, s)
		asked := map[int]uint64{}  // when a node was asked last
		was := map[uint64]string{} // what became of each probe
		out := map[int]uint64{}    // by what was told
		now := uint64(0)
		for range 300 {
			asks, late := p.Tick(now)
			for _, node := range late {
				was[out[node]] += "late "
				delete(out, node)
			}
			for _, a := range asks {
				if at, is := asked[a.Node]; is && now-at < s.every {
					t.Fatalf("%v: node %d was asked at %d and at %d", s, a.Node, at, now)
				}
				if _, is := was[a.Number]; is || out[a.Node] != 0 {
					t.Fatalf("%v: %v at %d, while %d is out", s, a, now, out[a.Node])
				}
				asked[a.Node], was[a.Number], out[a.Node] = now, "", a.Number
			}
			for node, number := range out {
				if draws.Intn(3) == 0 {
					if !p.Answer(node, number) {
						t.Fatalf("%v: %d of node %d isn't out at %d", s, number, node, now)
					}
					was[number] += "answered "
					delete(out, node)
				}
			}
			for node := range s.nodes {
				if p.Out(node) != out[node] {
					t.Fatalf("%v: %d of node %d is out at %d, not %d", s, p.Out(node), node, now, out[node])
				}
				if out[node] != 0 {
					continue
				}
				for number := range uint64(len(was) + 2) {
					if p.Answer(node, number) {
						t.Fatalf("%v: %d of node %d is answered at %d, behind %s", s, number, node, now, was[number])
					}
				}
			}
			now += uint64(draws.Intn(int(max(s.every, s.late)) + 2))
		}
		for _, number := range out {
			was[number] += "out "
		}
		for number := uint64(1); number <= uint64(len(was)); number++ {
			if strings.Count(was[number], " ") != 1 {
				t.Fatalf("%v: %d was %q", s, number, was[number])
			}
		}
	}
}

// R5: of two plans, side by side, neither changes with the other; each has its own numbers.
func TestPlansAreApart(t *testing.T) {
	first, second := mustNew(t, set{2, 5, 2}), mustNew(t, set{2, 5, 2})
	if first == second {
		t.Fatal("New told one twice")
	}
	checkTick(t, first, 1, "0:1 1:2", "")
	checkLook(t, second, fresh(2))
	checkTick(t, second, 0, "0:1", "")
	checkLook(t, first, "1@6 2@6")
	checkAnswer(t, first, 0, 1, true)
	checkLook(t, second, "1@5 0@1")
	checkTick(t, second, 2, "1:2", "0")
	checkLook(t, first, "0@6 2@6")
	checkAnswer(t, second, 0, 1, false)
	third := mustNew(t, set{2, 5, 2})
	checkLook(t, third, fresh(2))
	if p, e := probe.New(0, 0, 0); p != nil || e != api.ErrArg {
		t.Errorf("New: %v, %d", p, e)
	}
	checkLook(t, first, "0@6 2@6")
	checkLook(t, second, "0@5 2@7")
}

// R5: many plans, whose calls come in turn, each against its own model.
func TestManyPlans(t *testing.T) {
	draws := rand.New(rand.NewSource(55))
	var plans []*probe.Plan
	var models []*model
	for range 8 {
		s := drawnSet(draws)
		plans, models = append(plans, mustNew(t, s)), append(models, &model{set: s})
	}
	for range 5000 {
		i := draws.Intn(len(plans))
		if wrong := do(plans[i], models[i], drawnCall(draws, models[i], 20)); wrong != "" {
			t.Fatal(wrong)
		}
		for j, p := range plans {
			if is := lookAt(p, models[j].nodes); is != models[j].look() {
				t.Fatalf("plan %d behind a call of plan %d: %s, not %s", j, i, is, models[j].look())
			}
		}
	}
}

// R3: what a Tick told may be changed, added to and kept: no plan changes with it, nor does it with a plan.
func TestListsAreApart(t *testing.T) {
	p := mustNew(t, set{6, 4, 2})
	p.Tick(5)
	p.Tick(8)
	first := lookAt(p, 6)
	kept, keptLate := p.Tick(9)
	is, isLate := writeAsks(kept), writeNodes(keptLate)
	if first != "0@9 0@9 0@9 0@9 0@9 0@9" || is != "0:7 1:8 2:9 3:10 4:11 5:12" || isLate != "" {
		t.Fatalf("%s; asks %s, late %s", first, is, isLate)
	}
	asks, late := p.Tick(13)
	if len(asks) != 6 || len(late) != 6 {
		t.Fatalf("Tick(13): %v, %v", asks, late)
	}
	for i := range 6 {
		asks[i] = probe.Ask{Node: 7, Number: 7}
		late[i] = -7
	}
	for i := range asks[:cap(asks)] {
		asks[:cap(asks)][i] = probe.Ask{Node: 8, Number: 8}
	}
	for i := range late[:cap(late)] {
		late[:cap(late)][i] = -8
	}
	checkLook(t, p, "13@17 14@17 15@17 16@17 17@17 18@17")
	if writeAsks(kept) != is || writeNodes(keptLate) != isLate {
		t.Errorf("%v, %v, that were %s, %s", kept, keptLate, is, isLate)
	}
	kept, keptLate = p.Tick(17)
	p.Tick(19)
	p.Tick(21)
	p.Tick(25)
	if writeAsks(kept) != "0:19 1:20 2:21 3:22 4:23 5:24" || writeNodes(keptLate) != "0 1 2 3 4 5" {
		t.Errorf("%v, %v behind later Ticks", kept, keptLate)
	}
}

// R4: the same calls, in the same order, answer the same.
func TestTheSameAgain(t *testing.T) {
	var first string
	for round := range 10 {
		draws := rand.New(rand.NewSource(4))
		p := mustNew(t, set{5, 3, 4})
		var all strings.Builder
		now := uint64(0)
		for range 500 {
			now += uint64(draws.Intn(3))
			asks, late := p.Tick(now)
			node := draws.Intn(5)
			is := p.Answer(node, p.Out(node))
			fmt.Fprintln(&all, asks, late, is, lookAt(p, 5))
		}
		if round == 0 {
			first = all.String()
		}
		if all.String() != first {
			t.Fatal("other answers than the first time")
		}
	}
}

// R1: Ticks of a now that is less than ahead, or greater than 2^32, end; of them nothing more is promised.
func TestTicksEnd(t *testing.T) {
	times := []uint64{0, 5, 1, far, far + 1, 0, math.MaxUint64, math.MaxUint64 - 1, 3, 1 << 63, 1<<63 - 1, 0}
	for nodes := 1; nodes <= api.MostNodes; nodes++ {
		for _, s := range []set{{nodes, 1, 1}, {nodes, 1000, 1000}, {nodes, 1, 1000}, {nodes, 1000, 1}} {
			p := mustNew(t, s)
			for _, now := range times {
				asks, late := p.Tick(now)
				if len(asks) > nodes || len(late) > nodes {
					t.Errorf("%v: Tick(%d): %v, %v", s, now, asks, late)
				}
			}
		}
	}
}
