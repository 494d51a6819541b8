package conn_test

import (
	"fmt"
	"math"
	"math/rand"
	"slices"
	"strings"
	"sync"
	"testing"

	"signalman/api"
	"signalman/conn"
)

// look is what a connection tells of itself.
type look struct {
	state, owner int
	epoch        uint64
	flight       uint64
	sent         int64
}

func lookOf(c *conn.Conn) look {
	return look{c.State(), c.Owner(), c.Epoch(), c.Flight(), c.Sent()}
}

func (l look) String() string {
	return fmt.Sprintf("state %d, owner %d, epoch %d, flight %d, sent %d", l.state, l.owner, l.epoch, l.flight, l.sent)
}

// checkLook asks twice, as to ask changes nothing.
func checkLook(t *testing.T, what string, c *conn.Conn, want look) {
	t.Helper()
	for range 2 {
		if l := lookOf(c); l != want {
			t.Errorf("%s: %v; not %v", what, l, want)
		}
	}
}

// call is one call of a connection, by its first letter (D: Drain, B: Break; R: Reply, G: Release, that gives it back), with a session or a request.
type call struct {
	do byte
	n  uint64
}

// answer is what a call answers: a bool by is, an error or a request by n.
type answer struct {
	is bool
	n  uint64
}

func (c call) String() string { return fmt.Sprintf("%c%d", c.do, c.n) }

func asConn(c *conn.Conn, a call) answer {
	switch a.do {
	case 'L':
		return answer{is: c.Lend(int(a.n))}
	case 'S':
		return answer{n: uint64(c.Send(a.n))}
	case 'R':
		return answer{is: c.Reply(a.n)}
	case 'O':
		return answer{is: c.Soil()}
	case 'G':
		return answer{is: c.Release()}
	case 'D':
		c.Drain()
		return answer{}
	case 'B':
		return answer{n: c.Break()}
	}
	panic("no such call")
}

func session(n int) uint64 { return uint64(n) }

// calls reads calls that are written short: "L3 S7 D R7".
func calls(s string) []call {
	var l []call
	for _, w := range strings.Fields(s) {
		a := call{do: w[0]}
		if len(w) > 1 {
			fmt.Sscan(w[1:], &a.n)
		}
		l = append(l, a)
	}
	return l
}

// made is a connection behind some calls.
func made(epoch uint64, s string) *conn.Conn { return behind(epoch, calls(s)) }

func behind(epoch uint64, l []call) *conn.Conn {
	c := conn.New(epoch)
	for _, a := range l {
		asConn(c, a)
	}
	return c
}

// wrongSessions are none: 0 and less, down to the least int.
func wrongSessions() []int {
	return []int{0, -1, -2, -3, -255, -1 << 31, -1<<31 - 1, -1 << 32, -1 << 62, math.MinInt + 1, math.MinInt}
}

// sessions are some that may be, up to the greatest int.
func sessions() []int {
	return []int{1, 2, 3, 10, 255, 256, 1<<31 - 1, 1 << 31, 1 << 32, 1<<32 + 1, 1 << 62, math.MaxInt - 1, math.MaxInt}
}

// requests are some that may be, up to the greatest uint64; epochs are these and 0.
func requests() []uint64 {
	return []uint64{1, 2, 7, 255, 256, 1<<31 - 1, 1 << 31, 1 << 32, 1<<32 + 1, 1<<63 - 1, 1 << 63, 1<<63 + 1, math.MaxUint64 - 1, math.MaxUint64}
}

func epochs() []uint64 { return append(requests(), 0) }

// situation is each way in which a connection can stand, and how it comes so. None of the calls is refused.
type situation struct {
	by    string
	look  look
	dirty bool
}

const inEpoch = 9

// situations are of the epoch 9, of session 3, and of request 7, where there is one.
func situations() []situation {
	at := func(by string, state, owner int, flight uint64, sent int64, dirty bool) situation {
		return situation{by, look{state, owner, inEpoch, flight, sent}, dirty}
	}
	return []situation{
		at("", conn.Idle, 0, 0, 0, false),
		at("L3 G", conn.Idle, 0, 0, 0, false),
		at("L4 S1 R1 G", conn.Idle, 0, 0, 1, false),
		at("L3", conn.Lent, 3, 0, 0, false),
		at("L4 G L3", conn.Lent, 3, 0, 0, false),
		at("L3 S7 R7", conn.Lent, 3, 0, 1, false),
		at("L3 O", conn.Lent, 3, 0, 0, true),
		at("L3 S7 O R7", conn.Lent, 3, 0, 1, true),
		at("L3 S7", conn.Lent, 3, 7, 1, false),
		at("L3 S5 R5 S7", conn.Lent, 3, 7, 2, false),
		at("L3 O S7", conn.Lent, 3, 7, 1, true),
		at("L3 S7 O", conn.Lent, 3, 7, 1, true),
		at("L3 S7 D", conn.Draining, 3, 7, 1, false),
		at("L3 S7 D D", conn.Draining, 3, 7, 1, false),
		at("L3 S5 R5 S7 D", conn.Draining, 3, 7, 2, false),
		at("L3 O S7 D", conn.Draining, 3, 7, 1, true),
		at("D", conn.Closed, 0, 0, 0, false),
		at("B", conn.Closed, 0, 0, 0, false),
		at("L3 D", conn.Closed, 0, 0, 0, false),
		at("L3 B", conn.Closed, 0, 0, 0, false),
		at("L3 S7 B", conn.Closed, 0, 0, 1, false),
		at("L3 S7 D R7", conn.Closed, 0, 0, 1, false),
		at("L3 S7 D B", conn.Closed, 0, 0, 1, false),
		at("L3 O G", conn.Closed, 0, 0, 0, true),
		at("L3 O D", conn.Closed, 0, 0, 0, true),
		at("L3 O S7 R7 G", conn.Closed, 0, 0, 1, true),
		at("L3 O S7 D R7", conn.Closed, 0, 0, 1, true),
		at("L3 S7 R7 S8 R8 S9 B", conn.Closed, 0, 0, 3, false),
	}
}

// checkDirt: whether one that is Lent is dirty is told by what Release does of it.
func checkDirt(t *testing.T, what string, c *conn.Conn, dirty bool) {
	t.Helper()
	if c.State() != conn.Lent {
		return
	}
	if c.Flight() != 0 && !c.Reply(c.Flight()) {
		t.Errorf("%s: Reply: false", what)
	}
	want := lookOf(c)
	want.owner, want.state = 0, conn.Idle
	if dirty {
		want.state = conn.Closed
	}
	if !c.Release() {
		t.Errorf("%s: Release: false", what)
	}
	checkLook(t, what+", and Release", c, want)
}

// checkCall: what one call answers in a situation, and how the connection stands behind that.
func checkCall(t *testing.T, s situation, a call, want answer, then look, dirty bool) {
	t.Helper()
	c := made(inEpoch, s.by)
	what := fmt.Sprintf("%q, %v", s.by, a)
	if is := asConn(c, a); is != want {
		t.Errorf("%s: %v, not %v", what, is, want)
	}
	checkLook(t, what, c, then)
	checkDirt(t, what, c, dirty)
}

// checkRefused: a call answers so, and changes nothing.
func checkRefused(t *testing.T, s situation, a call, want answer) {
	t.Helper()
	checkCall(t, s, a, want, s.look, s.dirty)
}

func failed(e api.Errno) answer { return answer{n: uint64(e)} }

// The document's example, and its words: states are numbers.
func TestConn(t *testing.T) {
	if conn.Idle != 1 || conn.Lent != 2 || conn.Draining != 3 || conn.Closed != 4 {
		t.Errorf("states: %d, %d, %d, %d", conn.Idle, conn.Lent, conn.Draining, conn.Closed)
	}
	c := conn.New(1)
	for i, x := range []struct {
		do   string
		want answer
		then look
	}{
		{"L3", answer{is: true}, look{conn.Lent, 3, 1, 0, 0}},
		{"S7", answer{}, look{conn.Lent, 3, 1, 7, 1}},
		{"D", answer{}, look{conn.Draining, 3, 1, 7, 1}},
		{"R7", answer{is: true}, look{conn.Closed, 0, 1, 0, 1}},
	} {
		if is := asConn(c, calls(x.do)[0]); is != x.want {
			t.Errorf("step %d: %v", i, is)
		}
		checkLook(t, x.do, c, x.then)
	}
}

// P9.1: New of any epoch is Idle, and Epoch tells that one, whatever comes.
func TestNew(t *testing.T) {
	for _, epoch := range epochs() {
		c := conn.New(epoch)
		if c == nil {
			t.Fatalf("New(%d): nil", epoch)
		}
		checkLook(t, "New", c, look{conn.Idle, 0, epoch, 0, 0})
		checkDirt(t, "New, Lend", made(epoch, "L1"), false)
		for _, s := range situations() {
			want := s.look
			want.epoch = epoch
			checkLook(t, s.by, made(epoch, s.by), want)
		}
	}
}

// P9.1: what State, Owner, Epoch, Flight and Sent tell in each situation, and whether it is dirty.
func TestSituations(t *testing.T) {
	for _, s := range situations() {
		checkLook(t, s.by, made(inEpoch, s.by), s.look)
		checkDirt(t, s.by, made(inEpoch, s.by), s.dirty)
	}
}

// P9.2: Lend of each session, in each situation: only one that is Idle is lent, to a session from 1 on.
func TestLend(t *testing.T) {
	for _, s := range situations() {
		for _, n := range sessions() {
			a := call{'L', session(n)}
			if s.look.state != conn.Idle {
				checkRefused(t, s, a, answer{})
				continue
			}
			then := s.look
			then.state, then.owner = conn.Lent, n
			checkCall(t, s, a, answer{is: true}, then, false)
		}
		for _, n := range wrongSessions() {
			checkRefused(t, s, call{'L', session(n)}, answer{})
		}
	}
}

// P9.2, P9.4: one that is Lent is lent to none, not even to whom it is, till it is given back; then to anybody.
func TestLendAgain(t *testing.T) {
	for _, first := range sessions() {
		c := conn.New(4)
		for _, next := range sessions() {
			if !c.Lend(first) || c.Lend(next) || c.Lend(first) {
				t.Errorf("Lend to %d, to %d", first, next)
			}
			checkLook(t, "Lend", c, look{conn.Lent, first, 4, 0, 0})
			if !c.Release() || !c.Lend(next) || c.Owner() != next || !c.Release() {
				t.Errorf("Lend to %d, behind %d", next, first)
			}
			checkLook(t, "Release", c, look{conn.Idle, 0, 4, 0, 0})
		}
	}
}

// P9.2: Send of each request, in each situation; of 0 it is ErrArg in all of them.
func TestSend(t *testing.T) {
	for _, s := range situations() {
		checkRefused(t, s, call{'S', 0}, failed(api.ErrArg))
		for _, n := range requests() {
			a := call{'S', n}
			if s.look.state != conn.Lent || s.look.flight != 0 {
				checkRefused(t, s, a, failed(api.ErrState))
				continue
			}
			then := s.look
			then.flight, then.sent = n, then.sent+1
			checkCall(t, s, a, failed(api.OK), then, s.dirty)
		}
	}
}

// P9.2: one request behind another, each of them any, also the same again.
func TestSendAgain(t *testing.T) {
	c := made(2, "L5")
	sent := int64(0)
	for _, first := range requests() {
		for _, next := range requests() {
			if e := c.Send(first); e != api.OK {
				t.Errorf("Send(%d): %d", first, e)
			}
			sent++
			if e := c.Send(next); e != api.ErrState {
				t.Errorf("Send(%d) while %d is in flight: %d", next, first, e)
			}
			checkLook(t, "Send", c, look{conn.Lent, 5, 2, first, sent})
			if is := c.Reply(next); is != (next == first) {
				t.Errorf("Reply(%d) of %d: %v", next, first, is)
			}
			c.Reply(first)
			checkLook(t, "Reply", c, look{conn.Lent, 5, 2, 0, sent})
		}
	}
}

// P9.1: Sent counts what was OK alone, and goes on counting whoever has it.
func TestSent(t *testing.T) {
	c := conn.New(6)
	for i := range int64(5000) {
		c.Send(1)
		c.Lend(int(i) + 1)
		c.Send(0)
		if n := c.Sent(); n != i {
			t.Fatalf("Sent: %d, not %d", n, i)
		}
		if e := c.Send(uint64(i) + 1); e != api.OK {
			t.Fatalf("Send: %d", e)
		}
		c.Send(0)
		c.Send(uint64(i) + 1)
		c.Send(uint64(i) + 2)
		if n := c.Sent(); n != i+1 {
			t.Fatalf("Sent: %d, not %d", n, i+1)
		}
		c.Reply(uint64(i) + 1)
		c.Release()
	}
	c.Break()
	c.Send(1)
	checkLook(t, "Break", c, look{conn.Closed, 0, 6, 0, 5000})
}

// P9.2: Reply of each request, and of 0, in each situation: only of the one in flight; then one that is Draining is Closed.
func TestReply(t *testing.T) {
	for _, s := range situations() {
		for _, n := range append(requests(), 0, 3, 6, 8, inEpoch) {
			a := call{'R', n}
			if n == 0 || n != s.look.flight {
				checkRefused(t, s, a, answer{})
				continue
			}
			then := s.look
			then.flight = 0
			if then.state == conn.Draining {
				then.state, then.owner = conn.Closed, 0
			}
			checkCall(t, s, a, answer{is: true}, then, s.dirty)
		}
	}
}

// P9.2: Reply of each request that can be in flight, once.
func TestReplyOnce(t *testing.T) {
	for _, n := range requests() {
		for _, drains := range []bool{false, true} {
			c := made(1, "L8")
			c.Send(n)
			then := look{conn.Lent, 8, 1, 0, 1}
			if drains {
				c.Drain()
				then.state, then.owner = conn.Closed, 0
			}
			if c.Reply(0) || c.Reply(n-1) || c.Reply(n+1) || c.Reply(^n) {
				t.Errorf("Reply of another one than %d", n)
			}
			if !c.Reply(n) || c.Reply(n) || c.Reply(0) {
				t.Errorf("Reply(%d)", n)
			}
			checkLook(t, "Reply", c, then)
		}
	}
}

// P9.3: Soil in each situation, and twice.
func TestSoil(t *testing.T) {
	for _, s := range situations() {
		a := call{'O', 0}
		if s.look.state != conn.Lent {
			checkRefused(t, s, a, answer{})
			continue
		}
		checkCall(t, s, a, answer{is: true}, s.look, true)
		twice := s
		twice.by += " O"
		checkCall(t, twice, a, answer{is: true}, s.look, true)
	}
}

// P9.3: Soil of one that isn't Lent leaves no dirt behind.
func TestSoilOfNone(t *testing.T) {
	checkDirt(t, "Soil, Lend", made(1, "O L1"), false)
	checkDirt(t, "Lend, Release, Soil, Lend", made(1, "L1 G O O L2"), false)
}

// P9.3: one that is dirty is never idle again, whatever is sent, and replied, behind that.
func TestDirtStays(t *testing.T) {
	for _, by := range []string{"L1 O", "L1 S1 O R1", "L1 O S1 R1", "L1 O S1 R1 S2 R2 S3 R3", "L1 G L2 O S1 G R1", "L1 S1 R1 O O S2 R2"} {
		c := made(1, by)
		want := look{conn.Closed, 0, 1, 0, c.Sent()}
		if !c.Release() || c.Release() || c.Lend(1) {
			t.Errorf("%q: Release", by)
		}
		checkLook(t, by, c, want)
	}
}

// P9.3: Release in each situation.
func TestRelease(t *testing.T) {
	for _, s := range situations() {
		a := call{'G', 0}
		if s.look.state != conn.Lent || s.look.flight != 0 {
			checkRefused(t, s, a, answer{})
			continue
		}
		then := s.look
		then.state, then.owner = conn.Idle, 0
		if s.dirty {
			then.state = conn.Closed
		}
		checkCall(t, s, a, answer{is: true}, then, false)
	}
}

// P9.3: Drain in each situation, and twice.
func TestDrain(t *testing.T) {
	for _, s := range situations() {
		then := s.look
		then.state = conn.Draining
		if s.look.flight == 0 {
			then.state, then.owner = conn.Closed, 0
		}
		checkCall(t, s, call{'D', 0}, answer{}, then, false)
		twice := s
		twice.by += " D"
		checkCall(t, twice, call{'D', 0}, answer{}, then, false)
	}
}

// P9.3: Break in each situation, and twice: the request that was in flight is told once.
func TestBreak(t *testing.T) {
	for _, s := range situations() {
		then := s.look
		then.state, then.owner, then.flight = conn.Closed, 0, 0
		checkCall(t, s, call{'B', 0}, answer{n: s.look.flight}, then, false)
		twice := s
		twice.by += " B"
		checkCall(t, twice, call{'B', 0}, answer{}, then, false)
	}
	for _, n := range requests() {
		for _, drains := range []bool{false, true} {
			c := made(1, "L1")
			c.Send(n)
			if drains {
				c.Drain()
			}
			if was, again := c.Break(), c.Break(); was != n || again != 0 {
				t.Errorf("Break: %d, %d, not %d", was, again, n)
			}
		}
	}
}

// someCalls are calls of all kinds, with few numbers, wrong ones among them.
func someCalls() []call { return calls("L1 L2 L0 S1 S2 S0 R1 R2 R0 O G D B") }

// P9.4: what is Closed stays, whatever comes.
func TestClosedStays(t *testing.T) {
	all := append(someCalls(), call{'L', session(-1)}, call{'L', session(math.MaxInt)}, call{'S', math.MaxUint64}, call{'R', 7})
	for _, s := range situations() {
		if s.look.state != conn.Closed {
			continue
		}
		c := made(inEpoch, s.by)
		for range 3 {
			for _, a := range all {
				want := answer{}
				if a.do == 'S' {
					want = failed(api.ErrState)
				}
				if a.do == 'S' && a.n == 0 {
					want = failed(api.ErrArg)
				}
				if is := asConn(c, a); is != want {
					t.Errorf("%q, Closed, %v: %v, not %v", s.by, a, is, want)
				}
				checkLook(t, s.by, c, s.look)
			}
		}
	}
}

// P9.4: behind Drain nothing is sent, or lent, any more, whatever comes.
func TestBehindDrain(t *testing.T) {
	for _, s := range situations() {
		for _, calls := range listsOf(someCalls(), 3) {
			c := made(inEpoch, s.by)
			c.Drain()
			for _, a := range calls {
				is := asConn(c, a)
				if a.do == 'L' && is.is || a.do == 'S' && is.n == 0 {
					t.Fatalf("%q, Drain, %v: %v of %v", s.by, calls, is, a)
				}
				if n := c.State(); n != conn.Draining && n != conn.Closed {
					t.Fatalf("%q, Drain, %v: state %d behind %v", s.by, calls, n, a)
				}
			}
			if c.Sent() != s.look.sent {
				t.Fatalf("%q, Drain, %v: %d sent", s.by, calls, c.Sent())
			}
		}
	}
}

// listsOf are all lists of so many of some calls.
func listsOf(some []call, many int) [][]call {
	if many == 0 {
		return [][]call{nil}
	}
	var all [][]call
	for _, l := range listsOf(some, many-1) {
		for _, a := range some {
			all = append(all, append(slices.Clone(l), a))
		}
	}
	return all
}

// model is a connection in another form: its state is kept as such, and each call is told by it.
type model struct {
	look  look
	dirty bool
}

func newModel(epoch uint64) *model { return &model{look: look{state: conn.Idle, epoch: epoch}} }

func (m *model) close() { m.look.state, m.look.owner, m.look.flight = conn.Closed, 0, 0 }

func (m *model) do(a call) answer {
	switch m.look.state {
	case conn.Idle:
		return m.idle(a)
	case conn.Lent:
		return m.lent(a)
	case conn.Draining:
		return m.draining(a)
	}
	return answer{n: uint64(m.refusal(a))}
}

// refusal is what Send answers of one that isn't Lent; other calls answer nothing, and false.
func (m *model) refusal(a call) api.Errno {
	switch {
	case a.do != 'S':
		return api.OK
	case a.n == 0:
		return api.ErrArg
	}
	return api.ErrState
}

func (m *model) idle(a call) answer {
	switch {
	case a.do == 'L' && int(a.n) > 0:
		m.look.state, m.look.owner = conn.Lent, int(a.n)
		return answer{is: true}
	case a.do == 'D' || a.do == 'B':
		m.close()
	}
	return answer{n: uint64(m.refusal(a))}
}

func (m *model) lent(a call) answer {
	flies := m.look.flight != 0
	switch {
	case a.do == 'S' && a.n != 0 && !flies:
		m.look.flight = a.n
		m.look.sent++
		return answer{}
	case a.do == 'R' && flies && a.n == m.look.flight:
		m.look.flight = 0
		return answer{is: true}
	case a.do == 'O':
		m.dirty = true
		return answer{is: true}
	case a.do == 'G' && !flies && m.dirty:
		m.close()
		return answer{is: true}
	case a.do == 'G' && !flies:
		m.look.state, m.look.owner = conn.Idle, 0
		return answer{is: true}
	case a.do == 'D' && flies:
		m.look.state = conn.Draining
	case a.do == 'D':
		m.close()
	case a.do == 'B':
		was := m.look.flight
		m.close()
		return answer{n: was}
	}
	return answer{n: uint64(m.refusal(a))}
}

func (m *model) draining(a call) answer {
	switch {
	case a.do == 'R' && a.n == m.look.flight:
		m.close()
		return answer{is: true}
	case a.do == 'B':
		was := m.look.flight
		m.close()
		return answer{n: was}
	}
	return answer{n: uint64(m.refusal(a))}
}

// checkCalls makes calls of a connection and of its model, and holds what they answer, and how they stand behind each, against each other.
func checkCalls(t *testing.T, epoch uint64, calls []call) {
	t.Helper()
	c, m := conn.New(epoch), newModel(epoch)
	for i, a := range calls {
		is, want := asConn(c, a), m.do(a)
		if l := lookOf(c); is != want || l != m.look {
			t.Fatalf("calls %v: %v, not %v; %v; not %v", calls[max(0, i-20):i+1], is, want, l, m.look)
		}
	}
}

// P9.1 to P9.4: all short lists of calls, against the model.
func TestShortCalls(t *testing.T) {
	for _, l := range listsOf(someCalls(), 5) {
		checkCalls(t, 3, l)
	}
	for _, l := range listsOf(calls("L2 S1 S2 R1 O G D B"), 6) {
		checkCalls(t, 3, append(calls("L1"), l...))
	}
}

// drawnCalls are calls of a text's letters, with few numbers or with great ones.
func drawnCalls(draws *rand.Rand, letters string, numbers []uint64, many int) []call {
	l := make([]call, many)
	for i := range l {
		l[i] = call{letters[draws.Intn(len(letters))], numbers[draws.Intn(len(numbers))]}
	}
	return l
}

// P9.1 to P9.4: long runs of drawn calls, against the model: some in which it never ends, and some with all calls.
func TestDrawnCalls(t *testing.T) {
	draws := rand.New(rand.NewSource(9))
	few := []uint64{0, 1, 2, 3}
	ends := append(requests(), 0, session(-1), session(math.MinInt), session(math.MaxInt))
	for i := range 300 {
		epoch := epochs()[i%len(epochs())]
		checkCalls(t, epoch, drawnCalls(draws, "LSRRG", few, 2000))
		checkCalls(t, epoch, drawnCalls(draws, "LSRG", ends, 2000))
		for range 20 {
			checkCalls(t, epoch, drawnCalls(draws, "LLSSRRROGDB", few, 60))
			checkCalls(t, epoch, drawnCalls(draws, "LSSRRRRGGGO", few, 60))
		}
	}
}

// R5: of two connections, neither changes with the other, in whatever situation both are.
func TestConnsAreApart(t *testing.T) {
	first := conn.New(inEpoch)
	if first == conn.New(inEpoch) {
		t.Fatal("New told one twice")
	}
	for _, s := range situations() {
		for _, other := range situations() {
			for _, a := range append(someCalls(), calls("L3 S7 R7")...) {
				c, o := made(inEpoch, s.by), made(inEpoch, other.by)
				asConn(o, a)
				checkLook(t, s.by+" beside "+other.by, c, s.look)
				checkDirt(t, s.by+" beside "+other.by, c, s.dirty)
			}
		}
	}
}

// R5: many connections, whose calls come in turn, each against its own model.
func TestManyConns(t *testing.T) {
	draws := rand.New(rand.NewSource(99))
	for range 100 {
		var conns []*conn.Conn
		var models []*model
		for i := range 7 {
			conns, models = append(conns, conn.New(uint64(i))), append(models, newModel(uint64(i)))
		}
		for _, a := range drawnCalls(draws, "LLLSSSRRRGGGOODB", []uint64{0, 1, 2}, 300) {
			i := draws.Intn(len(conns))
			is, want := asConn(conns[i], a), models[i].do(a)
			if is != want {
				t.Fatalf("connection %d, %v: %v, not %v", i, a, is, want)
			}
			for j, c := range conns {
				if lookOf(c) != models[j].look {
					t.Fatalf("connection %d behind %v of %d: %v; not %v", j, a, i, lookOf(c), models[j].look)
				}
			}
		}
	}
}

// R4: the same calls, in the same order, answer the same.
func TestTheSameAgain(t *testing.T) {
	for i := range 50 {
		l := drawnCalls(rand.New(rand.NewSource(int64(i))), "LLLSSSRRRGGGOD", []uint64{0, 1, 2}, 100)
		var first []string
		for round := range 5 {
			c := conn.New(5)
			var all []string
			for _, a := range l {
				all = append(all, fmt.Sprint(asConn(c, a), lookOf(c)))
			}
			if round == 0 {
				first = all
			}
			if !slices.Equal(all, first) {
				t.Fatal("other answers than the first time")
			}
		}
	}
}

// atATime runs what many do at a time, and waits for them all.
func atATime(many int, do func(i int)) {
	ready := make(chan bool)
	var all sync.WaitGroup
	for i := range many {
		all.Go(func() {
			<-ready
			do(i)
		})
	}
	close(ready)
	all.Wait()
}

// those tells whose answers were true.
func those(won []bool) []int {
	var l []int
	for i, is := range won {
		if is {
			l = append(l, i)
		}
	}
	return l
}

// P9.4: of several that lend an Idle connection at a time, new or given back, just one gets it, and it is that one's.
func TestLendAtATime(t *testing.T) {
	for _, many := range []int{2, 3, 16} {
		for round := range 700 {
			c := conn.New(5)
			if round%2 == 1 {
				c = made(5, "L1 S1 R1 G")
			}
			was := c.Sent()
			won := make([]bool, many)
			atATime(many, func(i int) { won[i] = c.Lend(i + 1) })
			l := those(won)
			if len(l) != 1 {
				t.Fatalf("lent to %d at a time", len(l))
			}
			checkLook(t, "Lend", c, look{conn.Lent, l[0] + 1, 5, 0, was})
		}
	}
}

// P9.4: just one gets it also where all are of one session, or some of none.
func TestLendOfOneSessionAtATime(t *testing.T) {
	const many = 12
	for range 500 {
		c := conn.New(5)
		won := make([]bool, many)
		atATime(many, func(i int) { won[i] = c.Lend(4 * (i%3 - 1)) })
		if l := those(won); len(l) != 1 || l[0]%3 != 2 {
			t.Fatalf("lent to %v", l)
		}
		checkLook(t, "Lend", c, look{conn.Lent, 4, 5, 0, 0})
	}
}

// winners tells of each connection who did it, where many go through all of them, side by side.
func winners(many int, conns []*conn.Conn, do func(c *conn.Conn, i int) bool) [][]int {
	won := make([][]bool, many)
	for i := range won {
		won[i] = make([]bool, len(conns))
	}
	atATime(many, func(i int) {
		for j, c := range conns {
			won[i][j] = do(c, i)
		}
	})
	all := make([][]int, len(conns))
	for j := range conns {
		for i := range won {
			if won[i][j] {
				all[j] = append(all[j], i)
			}
		}
	}
	return all
}

// manyMade are so many connections, each behind the same calls.
func manyMade(count int, by string) []*conn.Conn {
	l := calls(by)
	conns := make([]*conn.Conn, count)
	for i := range conns {
		conns[i] = behind(5, l)
	}
	return conns
}

// P9.4: each of many connections is lent to just one of those that go through them all.
func TestLendManyAtATime(t *testing.T) {
	for range 400 {
		conns := manyMade(1000, "")
		all := winners(8, conns, func(c *conn.Conn, i int) bool { return c.Lend(i + 1) })
		for j, c := range conns {
			if len(all[j]) != 1 {
				t.Fatalf("lent to %d at a time", len(all[j]))
			}
			checkLook(t, "Lend", c, look{conn.Lent, all[j][0] + 1, 5, 0, 0})
		}
	}
}

// P9.4: who gets it has it alone, till it is given back, while others want it all the time.
func TestLendInTurn(t *testing.T) {
	const many, each = 8, 100000
	c := conn.New(5)
	var got [many]int64
	held := 0 // without a lock: only who has the connection touches it
	atATime(many, func(i int) {
		for j := range uint64(each) {
			if !c.Lend(i + 1) {
				continue
			}
			got[i]++
			held++
			if n := c.Owner(); n != i+1 || c.State() != conn.Lent || c.Flight() != 0 {
				t.Errorf("owner %d, not %d", n, i+1)
			}
			if e := c.Send(j + 1); e != api.OK || c.Flight() != j+1 || c.Release() {
				t.Errorf("Send: %d; in flight %d", e, c.Flight())
			}
			if !c.Reply(j+1) || c.Owner() != i+1 || !c.Release() {
				t.Error("Reply, Release")
			}
		}
	})
	sum := int64(0)
	for _, n := range got {
		sum += n
	}
	if int64(held) != sum || sum == 0 {
		t.Errorf("%d held it, %d got it", held, sum)
	}
	checkLook(t, "all have given it back", c, look{conn.Idle, 0, 5, 0, sum})
}

// P9.2 to P9.4: what one can do alone is done by just one of several: of Sends one is in flight, and each request is replied, told by Break, and given back once.
func TestOnceAtATime(t *testing.T) {
	send := func(c *conn.Conn, i int) bool { return c.Send(7) == api.OK }
	reply := func(c *conn.Conn, i int) bool { return c.Reply(7) }
	hang := func(c *conn.Conn, i int) bool { return c.Break() == 7 }
	release := func(c *conn.Conn, i int) bool { return c.Release() }
	for _, x := range []struct {
		by   string
		do   func(c *conn.Conn, i int) bool
		then look
	}{
		{"L3", send, look{conn.Lent, 3, 5, 7, 1}},
		{"L3 S7", reply, look{conn.Lent, 3, 5, 0, 1}},
		{"L3 S7 D", reply, look{conn.Closed, 0, 5, 0, 1}},
		{"L3 S7", hang, look{conn.Closed, 0, 5, 0, 1}},
		{"L3 S7 R7", release, look{conn.Idle, 0, 5, 0, 1}},
		{"L3 O", release, look{conn.Closed, 0, 5, 0, 0}},
	} {
		for range 200 {
			conns := manyMade(1000, x.by)
			all := winners(8, conns, x.do)
			for j, c := range conns {
				if len(all[j]) != 1 {
					t.Fatalf("%q: %d did", x.by, len(all[j]))
				}
				checkLook(t, x.by, c, x.then)
			}
		}
	}
}

// P9.4: one that is closed while several want it is closed, whoever got it ahead of that.
func TestCloseAtATime(t *testing.T) {
	const many = 8
	for i := range 1000 {
		c := conn.New(5)
		won := make([]bool, many)
		atATime(many+1, func(j int) {
			switch {
			case j < many:
				won[j] = c.Lend(j + 1)
			case i%2 == 0:
				c.Drain()
			default:
				c.Break()
			}
		})
		if l := those(won); len(l) > 1 {
			t.Fatalf("lent to %d at a time", len(l))
		}
		checkLook(t, "Drain or Break, and Lend", c, look{conn.Closed, 0, 5, 0, 0})
	}
}

// P9.1: what is asked meanwhile is how it stands on the way: Sent only rises, and nobody has it but who may.
func TestAskedMeanwhile(t *testing.T) {
	const many, each = 6, 20000
	c := conn.New(5)
	var sent [many]int64
	atATime(2*many, func(i int) {
		was := int64(0)
		for range each {
			if i < many && c.Lend(i+1) {
				c.Send(uint64(i) + 1)
				sent[i]++
				c.Reply(uint64(i) + 1)
				c.Release()
			}
			l := lookOf(c)
			if l.state != conn.Idle && l.state != conn.Lent || l.owner < 0 || l.owner > many || l.flight > many || l.epoch != 5 || l.sent < was {
				t.Errorf("%v; behind sent %d", l, was)
			}
			was = l.sent
		}
	})
	sum := int64(0)
	for _, n := range sent {
		sum += n
	}
	checkLook(t, "all have given it back", c, look{conn.Idle, 0, 5, 0, sum})
}
