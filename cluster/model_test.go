package cluster_test

import (
	"fmt"
	"math"
	"math/rand"
	"slices"
	"testing"

	"signalman/api"
	"signalman/class"
	"signalman/cluster"
	"signalman/node"
)

// spot is where an entry was laid, behind another one; whoever has it has all that is ahead of it.
type spot struct {
	ahead *spot
	place int
	entry node.Entry
}

// at is how long a log is whose last spot it is.
func (s *spot) at() int {
	if s == nil {
		return 0
	}
	return s.place
}

func (s *spot) log() []node.Entry {
	l := make([]node.Entry, s.at())
	for ; s != nil; s = s.ahead {
		l[s.place-1] = s.entry
	}
	return l
}

// fork is the last spot that two logs have both.
func fork(a, b *spot) *spot {
	for a != b {
		if a.at() >= b.at() {
			a = a.ahead
		} else {
			b = b.ahead
		}
	}
	return a
}

// model is a cluster that is told in another way: its logs are branches of one tree, so that they are alike where they have one stem, and who leads is told by the promotions.
type model struct {
	nodes  []branch
	promos []cluster.Promo // of all epochs, from 1 on
}

// branch is a node: its log's last spot, and what waits in transactions.
type branch struct {
	epoch uint64
	last  *spot
	waits map[int][]string
}

func newModel(nodes int) *model {
	m := &model{promos: []cluster.Promo{{Epoch: 1}}}
	for range nodes {
		m.nodes = append(m.nodes, branch{1, nil, map[int][]string{}})
	}
	return m
}

func (m *model) newest() cluster.Promo { return m.promos[len(m.promos)-1] }

func (m *model) primary() *spot { return m.nodes[m.newest().Primary].last }

func (m *model) has(n int) bool { return n >= 0 && n < len(m.nodes) }

func (m *model) leads(n int) bool { return m.promos[m.nodes[n].epoch-1].Primary == n }

func (m *model) lag(n int) int {
	if m.nodes[n].epoch < m.newest().Epoch {
		return m.primary().at()
	}
	return m.primary().at() - m.nodes[n].last.at()
}

func (m *model) promote(n int) (cluster.Promo, api.Errno) {
	if !m.has(n) {
		return cluster.Promo{}, api.ErrName
	}
	if m.newest().Primary == n {
		return cluster.Promo{}, api.ErrState
	}
	last := m.nodes[n].last
	p := cluster.Promo{Epoch: uint64(len(m.promos)) + 1, Primary: n, Cut: uint64(fork(last, m.primary()).at())}
	m.promos = append(m.promos, p)
	m.nodes[n] = branch{p.Epoch, last, map[int][]string{}}
	return p, api.OK
}

func (m *model) copy(n, limit int) int {
	if !m.has(n) || m.newest().Primary == n {
		return 0
	}
	b := &m.nodes[n]
	if b.epoch < m.newest().Epoch {
		*b = branch{m.newest().Epoch, b.last, map[int][]string{}}
	}
	b.last = fork(b.last, m.primary())
	kept := b.last.at()
	for s := m.primary(); s.at() > b.last.at(); s = s.ahead {
		if s.place-kept <= limit {
			b.last = s
		}
	}
	return b.last.at() - kept
}

func (m *model) run(n, conn int, epoch uint64, reads bool, text string) node.Reply {
	if !m.has(n) {
		return node.Reply{Err: api.ErrName}
	}
	b := &m.nodes[n]
	r := node.Reply{Epoch: b.epoch}
	is, _ := kind(text)
	_, open := b.waits[conn]
	switch {
	case epoch != b.epoch:
		r.Err = api.ErrStale
	case is == class.Bad, reads && is != class.Read:
		r.Err = api.ErrForm
	case !reads && !m.leads(n), is == class.Begin && open, is == class.Commit && !open, is == class.Rollback && !open:
		r.Err = api.ErrState
	default:
		r.Texts = b.does(conn, is, text)
	}
	r.Place = uint64(b.last.at())
	return r
}

func (b *branch) does(conn, is int, text string) []string {
	waits, open := b.waits[conn]
	switch is {
	case class.Read:
		return b.value(waits)
	case class.Begin:
		b.waits[conn] = nil
	case class.Commit:
		for _, text := range waits {
			b.lay(text)
		}
		delete(b.waits, conn)
	case class.Rollback:
		delete(b.waits, conn)
	case class.Write, class.Unknown:
		if open {
			b.waits[conn] = append(waits, text)
		} else {
			b.lay(text)
		}
	}
	return nil
}

func (b *branch) lay(text string) {
	b.last = &spot{b.last, b.last.at() + 1, node.Entry{Epoch: b.epoch, Text: text}}
}

// value is what the last put tells, of those that wait, else of the log.
func (b *branch) value(waits []string) []string {
	for _, text := range slices.Backward(waits) {
		if is, v := kind(text); is == class.Write {
			return []string{v}
		}
	}
	for s := b.last; s != nil; s = s.ahead {
		if is, v := kind(s.entry.Text); is == class.Write {
			return []string{v}
		}
	}
	return nil
}

func (m *model) close(n, conn int) bool {
	if !m.has(n) {
		return false
	}
	_, open := m.nodes[n].waits[conn]
	delete(m.nodes[n].waits, conn)
	return open
}

// both is a cluster, and its model: what one answers is held against the other; and behind each act so is what they are, and what P16.4 says of what was told till then.
type both struct {
	t      *testing.T
	c      *cluster.Cluster
	m      *model
	laid   []laid
	promos []cluster.Promo
	led    map[uint64]int // of each epoch who led it
}

// laid is an entry that was written, with the epoch and the place that were told.
type laid struct {
	entry node.Entry
	place int
}

func newBoth(t *testing.T, nodes int) *both {
	return &both{t: t, c: made(t, nodes), m: newModel(nodes), led: map[uint64]int{}}
}

func (b *both) check(format string, a ...any) {
	b.t.Helper()
	what := fmt.Sprintf(format, a...)
	if b.c.Nodes() != len(b.m.nodes) || b.c.Newest() != b.m.newest() {
		b.t.Fatalf("%s: %d, %v, not %v", what, b.c.Nodes(), b.c.Newest(), b.m.newest())
	}
	for n := range b.m.nodes {
		if b.c.Epoch(n) != b.m.nodes[n].epoch || b.c.Leads(n) != b.m.leads(n) || b.c.Lag(n) != uint64(b.m.lag(n)) {
			b.t.Fatalf("%s: %d: epoch %d, leads %v, lag %d", what, n, b.c.Epoch(n), b.c.Leads(n), b.c.Lag(n))
		}
		if l, want := b.c.Log(n), b.m.nodes[n].last.log(); !slices.Equal(l, want) {
			b.t.Fatalf("%s: %d: %v, not %v", what, n, l, want)
		}
	}
	b.follows(what)
}

// follows holds P16.4's three sentences, by what was told alone.
func (b *both) follows(what string) {
	b.t.Helper()
	newest := b.c.Newest()
	whole := b.c.Log(newest.Primary)
	for n := range b.c.Nodes() {
		epoch, log := b.c.Epoch(n), b.c.Log(n)
		if b.c.Leads(n) {
			if by, is := b.led[epoch]; is && by != n {
				b.t.Fatalf("%s: %d and %d led the epoch %d", what, by, n, epoch)
			}
			b.led[epoch] = n
		}
		if epoch == newest.Epoch && (len(log) > len(whole) || !slices.Equal(log, whole[:len(log)])) {
			b.t.Fatalf("%s: %d: %v, %v", what, n, log, whole)
		}
	}
	for _, l := range b.laid {
		if !b.isCut(l) && (len(whole) < l.place || whole[l.place-1] != l.entry) {
			b.t.Fatalf("%s: %v isn't in %v", what, l, whole)
		}
	}
}

// isCut tells whether a promotion to a later epoch cut an entry.
func (b *both) isCut(l laid) bool {
	return slices.ContainsFunc(b.promos, func(p cluster.Promo) bool { return p.Epoch > l.entry.Epoch && p.Cut < uint64(l.place) })
}

func (b *both) promote(n int) {
	b.t.Helper()
	p, e := b.c.Promote(n)
	want, wantE := b.m.promote(n)
	if p != want || e != wantE {
		b.t.Fatalf("Promote(%d): %v, %d, not %v, %d", n, p, e, want, wantE)
	}
	if e == api.OK {
		b.promos = append(b.promos, p)
	}
	b.check("Promote(%d)", n)
}

func (b *both) copy(n, limit int) {
	b.t.Helper()
	if k, want := b.c.Copy(n, limit), b.m.copy(n, limit); k != want {
		b.t.Fatalf("Copy(%d, %d): %d, not %d", n, limit, k, want)
	}
	b.check("Copy(%d, %d)", n, limit)
}

func (b *both) run(n, conn int, epoch uint64, reads bool, text string) {
	b.t.Helper()
	before := len(b.c.Log(n))
	r, want := b.c.Run(n, conn, epoch, reads, text), b.m.run(n, conn, epoch, reads, text)
	if !sameReply(r, want) {
		b.t.Fatalf("Run(%d, %d, %d, %v, %q): %v, not %v", n, conn, epoch, reads, text, r, want)
	}
	next := b.c.Log(n)[before:]
	for i, e := range next {
		b.laid = append(b.laid, laid{node.Entry{Epoch: r.Epoch, Text: e.Text}, int(r.Place) - len(next) + 1 + i})
	}
	b.check("Run(%d, %d, %d, %v, %q)", n, conn, epoch, reads, text)
}

// thinks runs a text in the node's own epoch.
func (b *both) thinks(n, conn int, text string) {
	b.t.Helper()
	b.run(n, conn, b.c.Epoch(n), false, text)
}

func (b *both) close(n, conn int) {
	b.t.Helper()
	if is, want := b.c.Close(n, conn), b.m.close(n, conn); is != want {
		b.t.Fatalf("Close(%d, %d): %v", n, conn, is)
	}
	b.check("Close(%d, %d)", n, conn)
}

// playShort plays all lists of so many acts, each on a cluster of its own.
func playShort(t *testing.T, nodes, acts int, all []func(b *both)) {
	t.Helper()
	total := 1
	for range acts {
		total *= len(all)
	}
	for list := range total {
		b, rest := newBoth(t, nodes), list
		for range acts {
			all[rest%len(all)](b)
			rest /= len(all)
		}
	}
}

// P16.2 to P16.4: all short lists of acts on two nodes, both of which write.
func TestShortOfTwo(t *testing.T) {
	playShort(t, 2, 6, []func(b *both){
		func(b *both) { b.promote(0) },
		func(b *both) { b.promote(1) },
		func(b *both) { b.copy(0, 1) },
		func(b *both) { b.copy(1, 1) },
		func(b *both) { b.thinks(0, 1, "p") },
		func(b *both) { b.thinks(1, 1, "p") },
	})
}

// P16.2 to P16.4: all short lists of acts on three nodes.
func TestShortOfThree(t *testing.T) {
	playShort(t, 3, 4, []func(b *both){
		func(b *both) { b.promote(0) },
		func(b *both) { b.promote(1) },
		func(b *both) { b.promote(2) },
		func(b *both) { b.copy(0, math.MaxInt) },
		func(b *both) { b.copy(1, math.MaxInt) },
		func(b *both) { b.copy(2, 0) },
		func(b *both) { b.copy(2, 1) },
		func(b *both) { b.thinks(0, 1, "p"); b.thinks(0, 1, "q") },
		func(b *both) { b.thinks(1, 1, "p") },
		func(b *both) { b.thinks(2, 1, "p") },
	})
}

// P16.2 to P16.4: all short lists of acts on two nodes with transactions of one connection.
func TestShortWithTransactions(t *testing.T) {
	playShort(t, 2, 4, []func(b *both){
		func(b *both) { b.promote(0) },
		func(b *both) { b.promote(1) },
		func(b *both) { b.copy(0, math.MaxInt) },
		func(b *both) { b.thinks(0, 1, "begin"); b.thinks(0, 1, put("1")) },
		func(b *both) { b.thinks(1, 1, "begin"); b.thinks(1, 1, put("2")) },
		func(b *both) { b.thinks(0, 1, get); b.thinks(0, 2, get) },
		func(b *both) { b.thinks(0, 1, "commit") },
		func(b *both) { b.thinks(1, 1, "commit") },
		func(b *both) { b.close(0, 1) },
		func(b *both) { b.close(1, 1) },
	})
}

// draw lets a node, or one that there is not, do what is drawn; what is told to write goes to the newest primary more often, and is told the epoch that the node thinks, or one near the newest.
func draw(r *rand.Rand, b *both) {
	n, conn := r.Intn(b.c.Nodes()+2)-1, r.Intn(3)
	l := statements()
	switch do := r.Intn(40); {
	case do < 4:
		b.promote(n)
	case do < 14:
		b.copy(n, []int{-1, 0, 1, 2, 3, math.MaxInt}[r.Intn(6)])
	case do < 16:
		b.close(n, conn)
	case do < 20:
		b.run(n, conn, b.c.Newest().Epoch+uint64(r.Intn(3))-1, r.Intn(3) == 0, l[r.Intn(len(l))])
	case do < 30:
		b.run(n, conn, b.c.Epoch(n), r.Intn(3) == 0, l[r.Intn(len(l))])
	default:
		b.thinks(b.c.Newest().Primary, conn, l[r.Intn(len(l))])
	}
}

// P16.2 to P16.4: many acts drawn, on 1 to 6 nodes.
func TestDrawn(t *testing.T) {
	r := rand.New(rand.NewSource(161))
	cut, stands := 0, 0
	for nodes := 1; nodes <= api.MostNodes; nodes++ {
		for range 150 {
			b := newBoth(t, nodes)
			for range 120 {
				draw(r, b)
			}
			for _, l := range b.laid {
				if b.isCut(l) {
					cut++
				} else if l.entry.Epoch < b.c.Newest().Epoch {
					stands++
				}
			}
		}
	}
	if cut < 1000 || stands < 1000 {
		t.Errorf("%d were cut, and %d stand, of an earlier epoch", cut, stands)
	}
}

// P16.4: behind each promotion a client's write stands where it was told, if the cuts leave it; where everyone copies ahead of it nothing is cut, and where nobody does all is that was written since.
func TestWhatStands(t *testing.T) {
	for _, copies := range []bool{false, true} {
		b := newBoth(t, 4)
		b.thinks(0, 1, "p")
		for n := range 4 {
			b.copy(n, 1)
		}
		for i := range 20 {
			b.thinks(b.c.Newest().Primary, 1, "x")
			next := (i + 1) % 4
			if copies {
				b.copy(next, math.MaxInt)
			}
			b.promote(next)
		}
		for i, l := range b.laid {
			if b.isCut(l) == (copies || i == 0) {
				t.Errorf("copies %v: %v", copies, l)
			}
		}
	}
}

// one is what a cluster answers to an act that is drawn, and what it is behind that.
func one(r *rand.Rand, c *cluster.Cluster) string {
	n, limit, conn, text := r.Intn(4)-1, r.Intn(4), r.Intn(3), statements()[r.Intn(10)]
	var told string
	switch r.Intn(8) {
	case 0:
		told = fmt.Sprint(c.Promote(n))
	case 1, 2:
		told = fmt.Sprint(c.Copy(n, limit), c.Lag(n))
	case 3:
		told = fmt.Sprint(c.Close(n, conn))
	default:
		told = fmt.Sprint(c.Run(n, conn, c.Epoch(n), limit == 0, text))
	}
	return told + state(c)
}

// R4, R5, P16.1 to P16.3: two clusters side by side answer what each of them alone does.
func TestSideBySide(t *testing.T) {
	alone := func(seed int64) []string {
		var told []string
		r, c := rand.New(rand.NewSource(seed)), made(t, 3)
		for range 400 {
			told = append(told, one(r, c))
		}
		return told
	}
	for seed := range int64(20) {
		wantA, wantB := alone(seed), alone(seed+1)
		ra, rb := rand.New(rand.NewSource(seed)), rand.New(rand.NewSource(seed+1))
		a, b := made(t, 3), made(t, 3)
		for i := range wantA {
			if s := one(ra, a); s != wantA[i] {
				t.Fatalf("%s, not %s", s, wantA[i])
			}
			if s := one(rb, b); s != wantB[i] {
				t.Fatalf("%s, not %s", s, wantB[i])
			}
		}
	}
}
