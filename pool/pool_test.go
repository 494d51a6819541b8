package pool_test

import (
	"fmt"
	"math"
	"math/rand"
	"slices"
	"strings"
	"testing"

	"signalman/api"
	"signalman/conn"
	"signalman/pool"
)

// call is one call of a pool, by its letter (A: Acquire, V: Serve, L: Leave, S: Send, R: Reply, O: Soil, G: Release, that gives one back, B: Break, D: Drain, P: Reap).
type call struct {
	do  byte
	id  int    // a session, of A and L; else a connection's
	n   uint64 // an epoch, of A, V and D; else a request
	now uint64
}

func (c call) String() string { return fmt.Sprintf("%c(%d,%d,%d)", c.do, c.id, c.n, c.now) }

// args are where the arguments of a call stand, in their order.
func (c *call) args() []any {
	switch c.do {
	case 'A':
		return []any{&c.id, &c.n, &c.now}
	case 'V':
		return []any{&c.n, &c.now}
	case 'S', 'R':
		return []any{&c.id, &c.n}
	case 'G':
		return []any{&c.id, &c.now}
	case 'L', 'O', 'B':
		return []any{&c.id}
	case 'D':
		return []any{&c.n}
	case 'P':
		return []any{&c.now}
	}
	panic("no such call")
}

// calls reads calls that are written short, with all their arguments: "A5,1,3 S1,7 D2".
func calls(s string) []call {
	var l []call
	for _, w := range strings.Fields(s) {
		c := call{do: w[0]}
		args, told := c.args(), strings.Split(w[1:], ",")
		if len(args) != len(told) {
			panic(w)
		}
		for i, a := range args {
			if _, err := fmt.Sscan(told[i], a); err != nil {
				panic(w)
			}
		}
		l = append(l, c)
	}
	return l
}

// answer is all that a call answers.
type answer struct {
	session, id int // of Break its owner is the session
	n           uint64
	is          bool
	e           api.Errno
}

var yes = answer{is: true}

func failed(e api.Errno) answer { return answer{e: e} }

func got(id int) answer { return answer{id: id} }

func served(session, id int) answer { return answer{session: session, id: id, is: true} }

func broken(request uint64, session int) answer {
	return answer{session: session, n: request, is: true}
}

func many(n int) answer { return answer{n: uint64(n)} }

func asPool(p *pool.Pool, c call) answer {
	var a answer
	switch c.do {
	case 'A':
		a.id, a.e = p.Acquire(c.id, c.n, c.now)
	case 'V':
		a.session, a.id, a.is = p.Serve(c.n, c.now)
	case 'L':
		a.is = p.Leave(c.id)
	case 'S':
		a.e = p.Send(c.id, c.n)
	case 'R':
		a.is = p.Reply(c.id, c.n)
	case 'O':
		a.is = p.Soil(c.id)
	case 'G':
		a.is = p.Release(c.id, c.now)
	case 'B':
		a.n, a.session, a.is = p.Break(c.id)
	case 'D':
		p.Drain(c.n)
	case 'P':
		a.n = uint64(p.Reap(c.now))
	}
	return a
}

// set is how a pool is made.
type set struct {
	most, wait int
	idle       uint64
}

func (s set) String() string { return fmt.Sprintf("most %d, wait %d, idle %d", s.most, s.wait, s.idle) }

// made is a pool behind some calls.
func made(t *testing.T, s set, by string) *pool.Pool {
	t.Helper()
	p, e := pool.New(s.most, s.wait, s.idle)
	if p == nil || e != api.OK {
		t.Fatalf("New of %v: %d", s, e)
	}
	for _, c := range calls(by) {
		asPool(p, c)
	}
	return p
}

// lookAt writes what a pool tells of itself: "1 L5 e2 f7 s3 / 2 I0 e2 f0 s4; 8 9" are the connection 1, Lent to 5, of the epoch 2, with 7 in flight, since 3; one that is Idle; and 8 and 9, who wait.
func lookAt(conns []pool.Info, waiting []int) string {
	var l, w []string
	for _, i := range conns {
		state := "?"
		if i.State >= conn.Idle && i.State <= conn.Closed {
			state = string(" ILDC"[i.State])
		}
		l = append(l, fmt.Sprintf("%d %s%d e%d f%d s%d", i.Id, state, i.Owner, i.Epoch, i.Flight, i.Since))
	}
	for _, id := range waiting {
		w = append(w, fmt.Sprint(id))
	}
	return strings.Join(l, " / ") + "; " + strings.Join(w, " ")
}

// checkLook asks twice, as to ask changes nothing.
func checkLook(t *testing.T, what string, p *pool.Pool, want string) {
	t.Helper()
	for range 2 {
		if l := lookAt(p.Conns(), p.Waiting()); l != want {
			t.Errorf("%s: %s\nnot %s", what, l, want)
		}
	}
}

// step is some calls, each of which answers that, and what the pool tells behind them; "" is what it told ahead of them.
type step struct {
	do   string
	want answer
	then string
}

func checkSteps(t *testing.T, p *pool.Pool, steps ...step) {
	t.Helper()
	look := lookAt(p.Conns(), p.Waiting())
	for i, s := range steps {
		for _, c := range calls(s.do) {
			if a := asPool(p, c); a != s.want {
				t.Errorf("step %d, %v: %+v, not %+v", i, c, a, s.want)
			}
		}
		if s.then != "" {
			look = s.then
		}
		checkLook(t, fmt.Sprintf("behind step %d, %s", i, s.do), p, look)
	}
}

const none = "; " // the look of a pool in which nothing is

// The document's example, and the names of what is told.
func TestPool(t *testing.T) {
	p, e := pool.New(1, 1, 9)
	if e != api.OK {
		t.Fatal(e)
	}
	if id, e := p.Acquire(5, 4, 3); id != 1 || e != api.OK {
		t.Errorf("Acquire of 5: %d, %d", id, e)
	}
	if id, e := p.Acquire(6, 4, 3); id != 0 || e != api.ErrNone {
		t.Errorf("Acquire of 6: %d, %d", id, e)
	}
	if id, e := p.Acquire(7, 4, 3); id != 0 || e != api.ErrFull {
		t.Errorf("Acquire of 7: %d, %d", id, e)
	}
	if e := p.Send(1, 8); e != api.OK {
		t.Errorf("Send: %d", e)
	}
	want := []pool.Info{{Id: 1, State: conn.Lent, Owner: 5, Epoch: 4, Flight: 8, Since: 3}}
	if l := p.Conns(); !slices.Equal(l, want) {
		t.Errorf("Conns: %v", l)
	}
	if l := p.Waiting(); !slices.Equal(l, []int{6}) {
		t.Errorf("Waiting: %v", l)
	}
}

// P10.1: New is refused by each argument alone, and by several.
func TestNewRefused(t *testing.T) {
	ints := []int{0, 1, 2, api.MostCap, api.MostCap + 1, api.MostWait, api.MostWait + 1, -1, 255, 256, 1 << 31, 1 << 32, 1<<32 + 1, math.MaxInt, math.MinInt, math.MinInt + 1}
	for _, most := range ints {
		for _, wait := range ints {
			for _, idle := range []uint64{0, 1, 5, math.MaxUint64} {
				p, e := pool.New(most, wait, idle)
				may := most >= 1 && most <= 6 && wait >= 0 && wait <= 12 && idle != 0
				if may && (p == nil || e != api.OK) || !may && (p != nil || e != api.ErrArg) {
					t.Errorf("New(%d, %d, %d): %v, %d", most, wait, idle, p != nil, e)
				}
			}
		}
	}
}

// sets are all pairs of most and wait that may be.
func sets(idle uint64) []set {
	var all []set
	for most := 1; most <= api.MostCap; most++ {
		for wait := 0; wait <= api.MostWait; wait++ {
			all = append(all, set{most, wait, idle})
		}
	}
	return all
}

// P10.1, P10.2, P10.5: a new pool has nothing, and then room for just so many connections, and for just so many who wait.
func TestRoom(t *testing.T) {
	for _, s := range sets(1) {
		p := made(t, s, "")
		checkLook(t, s.String(), p, none)
		var conns []pool.Info
		var waiting []int
		for i := range s.most + s.wait + 3 {
			session, want := 100+i, failed(api.ErrFull)
			switch {
			case i < s.most:
				want = got(i + 1)
				conns = append(conns, pool.Info{Id: i + 1, State: conn.Lent, Owner: session, Epoch: 3, Since: uint64(i)})
			case i < s.most+s.wait:
				want = failed(api.ErrNone)
				waiting = append(waiting, session)
			}
			if a := asPool(p, call{'A', session, 3, uint64(i)}); a != want {
				t.Errorf("%v: Acquire number %d: %+v, not %+v", s, i, a, want)
			}
			checkLook(t, s.String(), p, lookAt(conns, waiting))
		}
	}
}

// P10.1: idle of 1, and of the greatest one, is the time that Reap goes by.
func TestIdle(t *testing.T) {
	for _, x := range []struct {
		idle, since, now uint64
		closed           bool
	}{
		{1, 5, 5, false}, {1, 5, 6, true}, {1, 5, 4, false}, {1, 5, 0, false}, {1, 5, math.MaxUint64, true}, {1, 0, 0, false}, {1, 0, 1, true},
		{5, 0, 4, false}, {5, 0, 5, true}, {5, 0, 6, true}, {5, 9, 8, false}, {5, 9, 4, false}, {5, 9, 3, false}, {5, 9, 13, false}, {5, 9, 14, true},
		{1, math.MaxUint64, math.MaxUint64, false}, {1, math.MaxUint64, math.MaxUint64 - 1, false}, {1, math.MaxUint64, 0, false}, {1, math.MaxUint64, 1, false},
		{1, math.MaxUint64 - 1, math.MaxUint64, true}, {2, math.MaxUint64 - 1, math.MaxUint64, false}, {7, math.MaxUint64 - 7, math.MaxUint64, true}, {8, math.MaxUint64 - 7, math.MaxUint64, false},
		{5, math.MaxUint64 - 1, 3, false}, {5, math.MaxUint64 - 1, 4, false}, {1 << 63, 1, 1 << 63, false}, {1 << 63, 1, 1<<63 + 1, true},
		{math.MaxUint64, 0, math.MaxUint64 - 1, false}, {math.MaxUint64, 0, math.MaxUint64, true}, {math.MaxUint64, 1, math.MaxUint64, false}, {math.MaxUint64, 1, 0, false},
		{math.MaxUint64, math.MaxUint64, 0, false}, {math.MaxUint64, math.MaxUint64, math.MaxUint64, false}, {math.MaxUint64, 2, 1, false},
	} {
		p := made(t, set{1, 0, x.idle}, fmt.Sprintf("A4,2,77 G1,%d", x.since))
		want, look, count := fmt.Sprintf("1 I0 e2 f0 s%d; ", x.since), none, 1
		checkLook(t, "Release", p, want)
		if !x.closed {
			look, count = want, 0
		}
		if n := p.Reap(x.now); n != count {
			t.Errorf("idle %d, since %d, Reap(%d): %d", x.idle, x.since, x.now, n)
		}
		checkLook(t, fmt.Sprintf("idle %d, since %d, Reap(%d)", x.idle, x.since, x.now), p, look)
	}
}

// P10.2: Acquire of what is no session is ErrArg, whatever else holds, and changes nothing.
func TestAcquireOfNone(t *testing.T) {
	for _, by := range []string{"", "A1,1,1", "A1,1,1 A2,1,1", "A1,1,1 A2,1,1 A3,1,1", "A1,1,1 A2,1,1 A3,1,1 A4,1,1", "A1,1,1 A2,1,1 G1,2", "A1,1,1 A2,1,1 A3,1,1 G1,2", "A1,1,1 S1,1 D2"} {
		for _, session := range []int{0, -1, -2, -255, -1 << 31, -1 << 32, math.MinInt + 1, math.MinInt} {
			for _, epoch := range []uint64{1, 2} {
				p := made(t, set{2, 1, 5}, by)
				look := lookAt(p.Conns(), p.Waiting())
				if a := asPool(p, call{'A', session, epoch, 9}); a != failed(api.ErrArg) {
					t.Errorf("%q, Acquire of %d: %+v", by, session, a)
				}
				checkLook(t, by, p, look)
			}
		}
	}
}

// P10.2: any number from 1 on is a session, any number an epoch, a time, and, from 1 on, a request.
func TestGreatNumbers(t *testing.T) {
	for _, session := range []int{1, 2, 255, 256, 1 << 31, 1 << 32, 1<<32 + 1, 1 << 62, math.MaxInt - 1, math.MaxInt} {
		for _, n := range []uint64{0, 1, 1<<31 - 1, 1 << 31, 1 << 32, 1<<63 - 1, 1 << 63, math.MaxUint64 - 1, math.MaxUint64} {
			p := made(t, set{1, 1, 5}, "")
			lent := fmt.Sprintf("1 L%d e%d f0 s%d; ", session, n, n)
			checkSteps(t, p, step{fmt.Sprintf("A%d,%d,%d", session, n, n), got(1), lent})
			if n != 0 {
				checkSteps(t, p,
					step{fmt.Sprintf("S1,%d", n), answer{}, fmt.Sprintf("1 L%d e%d f%d s%d; ", session, n, n, n)},
					step{fmt.Sprintf("R1,%d", n), yes, lent})
			}
			checkSteps(t, p,
				step{fmt.Sprintf("D%d", n), answer{}, lent},
				step{fmt.Sprintf("G1,%d", ^n), yes, fmt.Sprintf("1 I0 e%d f0 s%d; ", n, ^n)},
				step{fmt.Sprintf("D%d", ^n), answer{}, none})
		}
	}
}

// P10.2: Acquire of who waits, or has a connection, is ErrState: while nobody waits, and while somebody does; also with an Idle one, or with room for more, and where the row is full.
func TestAcquireTwice(t *testing.T) {
	checkSteps(t, made(t, set{3, 2, 5}, ""),
		step{"A5,1,1", got(1), "1 L5 e1 f0 s1; "},
		step{"A5,1,2 A5,2,2", failed(api.ErrState), ""},
		step{"S1,7", answer{}, "1 L5 e1 f7 s1; "},
		step{"A5,1,2 A5,2,2", failed(api.ErrState), ""},
		step{"D2", answer{}, "1 D5 e1 f7 s1; "},
		step{"A5,1,2 A5,2,2", failed(api.ErrState), ""},
		step{"A6,2,3", got(2), "1 D5 e1 f7 s1 / 2 L6 e2 f0 s3; "},
		step{"A7,2,4", got(3), "1 D5 e1 f7 s1 / 2 L6 e2 f0 s3 / 3 L7 e2 f0 s4; "},
		step{"A8,2,5", failed(api.ErrNone), "1 D5 e1 f7 s1 / 2 L6 e2 f0 s3 / 3 L7 e2 f0 s4; 8"},
		step{"A5,2,6 A6,2,6 A7,2,6 A8,2,6 A8,3,6", failed(api.ErrState), ""},
		step{"G3,6", yes, "1 D5 e1 f7 s1 / 2 L6 e2 f0 s3 / 3 I0 e2 f0 s6; 8"},
		step{"A5,2,6 A6,2,6 A8,2,6 A5,3,6 A8,3,6", failed(api.ErrState), ""},
		step{"A7,2,7", failed(api.ErrNone), "1 D5 e1 f7 s1 / 2 L6 e2 f0 s3 / 3 I0 e2 f0 s6; 8 7"},
		step{"A5,2,6 A6,2,6 A7,2,6 A8,2,6", failed(api.ErrState), ""},
		step{"A9,2,6", failed(api.ErrFull), ""},
	)
}

// P10.2: who had a connection, or waited, may ask again: behind Release, Break, Leave, and what closes one.
func TestAcquireAgain(t *testing.T) {
	for by, then := range map[string]string{
		"A5,1,1 G1,2":                       "1 L5 e1 f0 s2; ",
		"A5,1,1 B1":                         "2 L5 e1 f0 s9; ",
		"A5,1,1 O1 G1,2":                    "2 L5 e1 f0 s9; ",
		"A5,1,1 D2":                         "2 L5 e1 f0 s9; ",
		"A5,1,1 S1,7 D2 R1,7":               "2 L5 e1 f0 s9; ",
		"A5,1,1 S1,7 D2 B1":                 "2 L5 e1 f0 s9; ",
		"A5,1,1 G1,2 P7":                    "2 L5 e1 f0 s9; ",
		"A6,1,1 A5,1,2 L5 B1":               "2 L5 e1 f0 s9; ",
		"A6,1,1 A5,1,2 G1,3 V1,4 G1,5":      "1 L5 e1 f0 s5; ",
		"A6,1,1 A5,1,2 B1 V1,4 S2,7 B2":     "3 L5 e1 f0 s9; ",
		"A6,1,1 A5,1,2 L5 G1,3 A7,1,4 G1,5": "1 L5 e1 f0 s5; ",
	} {
		p := made(t, set{1, 1, 5}, by)
		id := 0
		fmt.Sscan(then, &id)
		checkSteps(t, p, step{"A5,1,9", got(id), then})
	}
}

// P10.2: of several Idle ones of its epoch the one of the least id is given, however long they were idle; Since stays.
func TestAcquireLeast(t *testing.T) {
	start := "A1,7,1 A2,7,2 A3,7,3 A4,7,4 "
	checkSteps(t, made(t, set{5, 0, 5}, start+"G3,5 G2,6 G4,7"),
		step{"A9,7,8", got(2), "1 L1 e7 f0 s1 / 2 L9 e7 f0 s6 / 3 I0 e7 f0 s5 / 4 I0 e7 f0 s7; "},
		step{"G1,9", yes, "1 I0 e7 f0 s9 / 2 L9 e7 f0 s6 / 3 I0 e7 f0 s5 / 4 I0 e7 f0 s7; "},
		step{"A8,7,10", got(1), "1 L8 e7 f0 s9 / 2 L9 e7 f0 s6 / 3 I0 e7 f0 s5 / 4 I0 e7 f0 s7; "},
		step{"A7,7,10", got(3), "1 L8 e7 f0 s9 / 2 L9 e7 f0 s6 / 3 L7 e7 f0 s5 / 4 I0 e7 f0 s7; "},
		step{"A6,7,10", got(4), "1 L8 e7 f0 s9 / 2 L9 e7 f0 s6 / 3 L7 e7 f0 s5 / 4 L6 e7 f0 s7; "},
		step{"A5,7,10", got(5), "1 L8 e7 f0 s9 / 2 L9 e7 f0 s6 / 3 L7 e7 f0 s5 / 4 L6 e7 f0 s7 / 5 L5 e7 f0 s10; "},
		step{"A4,7,10", failed(api.ErrFull), ""},
	)
	checkSteps(t, made(t, set{5, 0, 5}, start+"G1,5 G2,6 G3,7 G4,8 B1 B3"),
		step{"A9,7,9", got(2), "2 L9 e7 f0 s6 / 4 I0 e7 f0 s8; "},
		step{"A8,7,9", got(4), "2 L9 e7 f0 s6 / 4 L8 e7 f0 s8; "},
		step{"A7,7,9", got(5), "2 L9 e7 f0 s6 / 4 L8 e7 f0 s8 / 5 L7 e7 f0 s9; "},
	)
}

// P10.2: Idle ones of other epochs, later or earlier, are closed first, also where one of its epoch is there; those that aren't Idle stay.
func TestAcquireOtherEpochs(t *testing.T) {
	for _, epoch := range []uint64{1, 3} {
		other := fmt.Sprintf("A9,%d,8", epoch)
		checkSteps(t, made(t, set{3, 0, 5}, "A1,2,1 A2,2,2 A3,2,3 G1,4 G3,5"),
			step{other, got(4), fmt.Sprintf("2 L2 e2 f0 s2 / 4 L9 e%d f0 s8; ", epoch)})
		checkSteps(t, made(t, set{3, 0, 5}, "A1,2,1 A2,2,2 A3,2,3 G1,4 G2,4 G3,5"),
			step{other, got(4), fmt.Sprintf("4 L9 e%d f0 s8; ", epoch)})
		checkSteps(t, made(t, set{1, 0, 5}, "A1,2,1 G1,2"),
			step{other, got(2), fmt.Sprintf("2 L9 e%d f0 s8; ", epoch)})
	}
	mixed := "A1,2,1 A2,3,2 A3,2,3 A4,3,4 G1,5 G2,6 G3,7 G4,8"
	checkSteps(t, made(t, set{4, 0, 5}, mixed), step{"A9,3,9", got(2), "2 L9 e3 f0 s6 / 4 I0 e3 f0 s8; "})
	checkSteps(t, made(t, set{4, 0, 5}, mixed), step{"A9,2,9", got(1), "1 L9 e2 f0 s5 / 3 I0 e2 f0 s7; "})
	checkSteps(t, made(t, set{4, 0, 5}, mixed), step{"A9,4,9", got(5), "5 L9 e4 f0 s9; "})
	checkSteps(t, made(t, set{4, 0, 5}, "A1,2,1 A2,3,2 G1,5 S2,7 D2"),
		step{"A9,3,9", got(3), "2 D2 e3 f7 s2 / 3 L9 e3 f0 s9; "})
}

// P10.2: as many as most, of which some are Draining: there is none to give; Lent ones of another epoch make no room either.
func TestAcquireDraining(t *testing.T) {
	full := "1 D1 e1 f7 s1 / 2 D2 e1 f8 s2 / 3 L3 e2 f0 s3; "
	checkSteps(t, made(t, set{3, 2, 5}, "A1,1,1 A2,1,2 S1,7 S2,8 D2 A3,2,3"),
		step{"A4,2,4", failed(api.ErrNone), full + "4"},
		step{"V2,4 V1,4 V3,4", answer{}, ""},
		step{"A5,9,4", failed(api.ErrNone), full + "4 5"},
		step{"A6,2,4", failed(api.ErrFull), ""},
		step{"R2,8", yes, "1 D1 e1 f7 s1 / 3 L3 e2 f0 s3; 4 5"},
		step{"A6,2,5", failed(api.ErrFull), ""},
		step{"V2,6", served(4, 4), "1 D1 e1 f7 s1 / 3 L3 e2 f0 s3 / 4 L4 e2 f0 s6; 5"},
		step{"V2,6", answer{}, ""},
		step{"B1", broken(7, 1), "3 L3 e2 f0 s3 / 4 L4 e2 f0 s6; 5"},
		step{"V9,7", served(5, 5), "3 L3 e2 f0 s3 / 4 L4 e2 f0 s6 / 5 L5 e9 f0 s7; "},
	)
}

// P10.2: while somebody waits, who comes waits too, though there is one to give, and nothing is closed meanwhile; where the row is full, or has no room, it is ErrFull.
func TestAcquireBehindOthers(t *testing.T) {
	checkSteps(t, made(t, set{2, 2, 5}, "A1,1,1 A2,1,2 A3,1,3"),
		step{"B1", broken(0, 1), "2 L2 e1 f0 s2; 3"},
		step{"A4,1,4", failed(api.ErrNone), "2 L2 e1 f0 s2; 3 4"},
		step{"A5,1,4 A6,2,4", failed(api.ErrFull), ""},
		step{"G2,5", yes, "2 I0 e1 f0 s5; 3 4"},
		step{"A5,1,4 A6,2,4", failed(api.ErrFull), ""},
		step{"L3", yes, "2 I0 e1 f0 s5; 4"},
		step{"A5,2,6", failed(api.ErrNone), "2 I0 e1 f0 s5; 4 5"},
		step{"L4 L5", yes, "2 I0 e1 f0 s5; "},
		step{"A5,2,7", got(3), "3 L5 e2 f0 s7; "},
	)
	checkSteps(t, made(t, set{2, 0, 5}, "A1,1,1 A2,1,2"),
		step{"A3,1,3 A3,2,3", failed(api.ErrFull), ""},
		step{"G2,4", yes, "1 L1 e1 f0 s1 / 2 I0 e1 f0 s4; "},
		step{"A3,1,5", got(2), "1 L1 e1 f0 s1 / 2 L3 e1 f0 s4; "},
	)
}

// P10.2: Serve with nobody who waits gives nothing, and closes nothing, whatever is there to give.
func TestServeNobody(t *testing.T) {
	for _, by := range []string{"", "A1,1,1", "A1,1,1 G1,2", "A1,1,1 A2,2,1 G1,2 G2,3", "A1,1,1 A2,1,1 A3,1,1 L3 G2,4", "A1,1,1 S1,2 D2"} {
		checkSteps(t, made(t, set{2, 2, 5}, by), step{"V1,9 V2,9 V3,9", answer{}, ""})
	}
}

// P10.2: Serve with nothing to give changes nothing; then each is served by its turn, by the Idle one of the least id, or by a new one.
func TestServe(t *testing.T) {
	checkSteps(t, made(t, set{3, 4, 5}, "A1,1,1 A2,1,2 A3,1,3 A7,1,4 A5,1,4 A9,1,4 A4,1,4"),
		step{"V1,5 V2,5", answer{}, "1 L1 e1 f0 s1 / 2 L2 e1 f0 s2 / 3 L3 e1 f0 s3; 7 5 9 4"},
		step{"G3,6 G2,7", yes, "1 L1 e1 f0 s1 / 2 I0 e1 f0 s7 / 3 I0 e1 f0 s6; 7 5 9 4"},
		step{"V1,8", served(7, 2), "1 L1 e1 f0 s1 / 2 L7 e1 f0 s7 / 3 I0 e1 f0 s6; 5 9 4"},
		step{"V1,8", served(5, 3), "1 L1 e1 f0 s1 / 2 L7 e1 f0 s7 / 3 L5 e1 f0 s6; 9 4"},
		step{"V1,8", answer{}, ""},
		step{"B1", broken(0, 1), "2 L7 e1 f0 s7 / 3 L5 e1 f0 s6; 9 4"},
		step{"V1,9", served(9, 4), "2 L7 e1 f0 s7 / 3 L5 e1 f0 s6 / 4 L9 e1 f0 s9; 4"},
		step{"V1,9", answer{}, ""},
		step{"A1,1,9", failed(api.ErrNone), "2 L7 e1 f0 s7 / 3 L5 e1 f0 s6 / 4 L9 e1 f0 s9; 4 1"},
		step{"G3,10", yes, "2 L7 e1 f0 s7 / 3 I0 e1 f0 s10 / 4 L9 e1 f0 s9; 4 1"},
		step{"V1,11", served(4, 3), "2 L7 e1 f0 s7 / 3 L4 e1 f0 s10 / 4 L9 e1 f0 s9; 1"},
		step{"L1", yes, "2 L7 e1 f0 s7 / 3 L4 e1 f0 s10 / 4 L9 e1 f0 s9; "},
		step{"V1,12", answer{}, ""},
	)
}

// P10.2: Serve closes Idle ones of another epoch first, and opens new ones; Lent ones stay.
func TestServeOtherEpochs(t *testing.T) {
	checkSteps(t, made(t, set{3, 4, 5}, "A1,1,1 A2,1,2 A3,1,3 A7,1,4 A8,1,4 A9,1,4 G1,5 G3,6"),
		step{"V2,7", served(7, 4), "2 L2 e1 f0 s2 / 4 L7 e2 f0 s7; 8 9"},
		step{"G2,8", yes, "2 I0 e1 f0 s8 / 4 L7 e2 f0 s7; 8 9"},
		step{"V2,9", served(8, 5), "4 L7 e2 f0 s7 / 5 L8 e2 f0 s9; 9"},
		step{"G4,10 G5,11", yes, "4 I0 e2 f0 s10 / 5 I0 e2 f0 s11; 9"},
		step{"V0,12", served(9, 6), "6 L9 e0 f0 s12; "},
	)
	checkSteps(t, made(t, set{2, 1, 5}, "A1,1,1 A2,2,2 A3,2,3 G1,4 G2,5"),
		step{"V2,6", served(3, 2), "2 L3 e2 f0 s5; "})
}

// P10.2: Leave of one that waits, at each place: all others keep their order; of others, and of one that has a connection, it is false.
func TestLeave(t *testing.T) {
	for many := range api.MostWait + 1 {
		for at := range many {
			p := made(t, set{1, many, 5}, "A99,1,1")
			var row []int
			for i := range many {
				row = append(row, 10+i)
				asPool(p, call{'A', 10 + i, 1, 2})
			}
			checkLook(t, "all wait", p, lookAt(p.Conns(), row))
			checkSteps(t, p, step{"L99 L98 L9 L22 L0 L-1 L1", answer{}, ""})
			if !p.Leave(10+at) || p.Leave(10+at) {
				t.Errorf("Leave of the one at %d of %d", at, many)
			}
			row = slices.Delete(row, at, at+1)
			checkLook(t, fmt.Sprintf("Leave at %d", at), p, lookAt(p.Conns(), row))
			for i, session := range row {
				p.Break(i + 1)
				if s, id, is := p.Serve(1, 3); s != session || id != i+2 || !is {
					t.Errorf("Leave at %d, Serve: %d, %d, %v", at, s, id, is)
				}
			}
			checkSteps(t, p, step{"V1,3", answer{}, ""})
		}
	}
}

// P10.2: Leave of the ends of int, in an empty pool.
func TestLeaveOfNobody(t *testing.T) {
	for _, session := range []int{0, 1, -1, math.MaxInt, math.MinInt} {
		if made(t, set{1, 3, 5}, "").Leave(session) || made(t, set{1, 3, 5}, "A7,1,1 A8,1,1").Leave(session) {
			t.Errorf("Leave(%d)", session)
		}
	}
}

// inAllStates is a pool with a connection in each way in which one can stand: 1 Draining, 2 out, 3 Lent, 4 with a request, 5 dirty, 6 dirty with a request, 7 Idle; 18 and 19 wait.
const inAllStates = "A11,1,1 S1,7 D2 A12,2,2 B2 A13,2,3 A14,2,4 S4,8 A15,2,5 O5 A16,2,6 S6,9 O6 A17,2,7 A18,2,7 A19,2,7 G7,8"

var theirSet = set{6, 3, 5}

func theirInfos() []pool.Info {
	return []pool.Info{
		{Id: 1, State: conn.Draining, Owner: 11, Epoch: 1, Flight: 7, Since: 1},
		{Id: 3, State: conn.Lent, Owner: 13, Epoch: 2, Since: 3},
		{Id: 4, State: conn.Lent, Owner: 14, Epoch: 2, Flight: 8, Since: 4},
		{Id: 5, State: conn.Lent, Owner: 15, Epoch: 2, Since: 5},
		{Id: 6, State: conn.Lent, Owner: 16, Epoch: 2, Flight: 9, Since: 6},
		{Id: 7, State: conn.Idle, Epoch: 2, Since: 8},
	}
}

// theirLook is what they tell where one of them was changed; one that is Closed then is out.
func theirLook(id int, change func(i *pool.Info)) string {
	var l []pool.Info
	for _, i := range theirInfos() {
		if i.Id == id {
			change(&i)
		}
		if i.State != conn.Closed {
			l = append(l, i)
		}
	}
	return lookAt(l, []int{18, 19})
}

func same(*pool.Info) {}

func out(i *pool.Info) { i.State = conn.Closed }

// idsOfNone are of what is out, of what was never there, and none.
func idsOfNone() []int {
	return []int{2, 0, -1, -7, 8, 9, 255, 256, 257, 1 << 31, 1 << 32, 1<<32 + 1, 1<<32 + 3, math.MaxInt, math.MinInt, math.MinInt + 1}
}

// checkOf: one call behind the same start answers that, and changes its own connection so.
func checkOf(t *testing.T, c call, want answer, change func(i *pool.Info)) {
	t.Helper()
	p := made(t, theirSet, inAllStates)
	if a := asPool(p, c); a != want {
		t.Errorf("%v: %+v, not %+v", c, a, want)
	}
	checkLook(t, c.String(), p, theirLook(c.id, change))
}

// P10.3: what is started with, so that the calls behind it say something.
func TestInAllStates(t *testing.T) {
	checkLook(t, "the start", made(t, theirSet, inAllStates), lookAt(theirInfos(), []int{18, 19}))
}

// P10.3: each call of an id that isn't there.
func TestOfNone(t *testing.T) {
	for _, id := range idsOfNone() {
		for _, n := range []uint64{0, 1, 7, 8, 9, math.MaxUint64} {
			checkOf(t, call{'S', id, n, 0}, failed(api.ErrName), same)
			checkOf(t, call{'R', id, n, 0}, answer{}, same)
			checkOf(t, call{'G', id, 0, n}, answer{}, same)
		}
		checkOf(t, call{'O', id, 0, 0}, answer{}, same)
		checkOf(t, call{'B', id, 0, 0}, answer{}, same)
	}
	checkSteps(t, made(t, set{1, 1, 5}, ""), step{"S1,1 S0,1 S1,0", failed(api.ErrName), none}, step{"R1,0 R0,0 O1 O0 G1,1 G0,0 B1 B0", answer{}, none})
}

// P10.3: Send of each request, in each state.
func TestSend(t *testing.T) {
	for _, i := range theirInfos() {
		checkOf(t, call{'S', i.Id, 0, 0}, failed(api.ErrArg), same)
		for _, n := range []uint64{1, 6, 7, 8, 9, 10, 1 << 32, math.MaxUint64} {
			c := call{'S', i.Id, n, 0}
			if i.Id != 3 && i.Id != 5 {
				checkOf(t, c, failed(api.ErrState), same)
				continue
			}
			checkOf(t, c, failed(api.OK), func(i *pool.Info) { i.Flight = n })
		}
	}
}

// P10.3: Reply of each request, in each state: one that is Draining is out behind it.
func TestReply(t *testing.T) {
	for _, i := range theirInfos() {
		for _, n := range []uint64{0, 1, 3, 6, 7, 8, 9, 10, 1 << 32, math.MaxUint64} {
			c := call{'R', i.Id, n, 0}
			switch {
			case n == 0 || n != i.Flight:
				checkOf(t, c, answer{}, same)
			case i.State == conn.Draining:
				checkOf(t, c, yes, out)
			default:
				checkOf(t, c, yes, func(i *pool.Info) { i.Flight = 0 })
			}
		}
	}
}

// P10.3: Soil in each state; what is dirty then is out, when it is given back.
func TestSoil(t *testing.T) {
	for _, i := range theirInfos() {
		c := call{'O', i.Id, 0, 0}
		if i.State != conn.Lent {
			checkOf(t, c, answer{}, same)
			continue
		}
		checkOf(t, c, yes, same)
		p := made(t, theirSet, inAllStates)
		p.Soil(i.Id)
		p.Reply(i.Id, i.Flight)
		if !p.Release(i.Id, 9) || p.Release(i.Id, 9) {
			t.Errorf("Release of %d, that is dirty", i.Id)
		}
		checkLook(t, "Soil, Release", p, theirLook(i.Id, out))
	}
}

// P10.3: Release in each state, at each time: Since is that time, also where it is earlier than Since was; one that is dirty is out.
func TestRelease(t *testing.T) {
	for _, i := range theirInfos() {
		for _, now := range []uint64{0, 1, 3, 8, 1000, 1 << 32, math.MaxUint64} {
			c := call{'G', i.Id, 0, now}
			switch i.Id {
			case 3:
				checkOf(t, c, yes, func(i *pool.Info) { i.State, i.Owner, i.Since = conn.Idle, 0, now })
			case 5:
				checkOf(t, c, yes, out)
			default:
				checkOf(t, c, answer{}, same)
			}
		}
	}
}

// P10.3: Break in each state tells the request that was in flight, and who had it.
func TestBreak(t *testing.T) {
	for _, i := range theirInfos() {
		c := call{'B', i.Id, 0, 0}
		checkOf(t, c, broken(i.Flight, i.Owner), out)
		p := made(t, theirSet, inAllStates)
		p.Break(i.Id)
		checkSteps(t, p,
			step{fmt.Sprintf("B%d R%d,%d O%d G%d,1", i.Id, i.Id, i.Flight, i.Id, i.Id), answer{}, theirLook(i.Id, out)},
			step{fmt.Sprintf("S%d,%d S%d,0", i.Id, 5, i.Id), failed(api.ErrName), ""})
	}
}

// Since is told: it stays while one is lent, sends, replies, and is drained; it changes when one is given back, each time.
func TestSince(t *testing.T) {
	checkSteps(t, made(t, set{1, 1, 5}, ""),
		step{"A5,1,30", got(1), "1 L5 e1 f0 s30; "},
		step{"S1,7", answer{}, "1 L5 e1 f7 s30; "},
		step{"G1,40", answer{}, ""},
		step{"R1,7", yes, "1 L5 e1 f0 s30; "},
		step{"G1,41", yes, "1 I0 e1 f0 s41; "},
		step{"G1,42", answer{}, ""},
		step{"A6,1,43", got(1), "1 L6 e1 f0 s41; "},
		step{"A7,1,44", failed(api.ErrNone), "1 L6 e1 f0 s41; 7"},
		step{"G1,20", yes, "1 I0 e1 f0 s20; 7"},
		step{"V1,45", served(7, 1), "1 L7 e1 f0 s20; "},
		step{"S1,8", answer{}, "1 L7 e1 f8 s20; "},
		step{"D2", answer{}, "1 D7 e1 f8 s20; "},
		step{"R1,8", yes, none},
		step{"A7,1,46", got(2), "2 L7 e1 f0 s46; "},
		step{"O2", yes, ""},
		step{"G2,47", yes, none},
		step{"A7,1,48", got(3), "3 L7 e1 f0 s48; "},
	)
}

// P10.3: Drain of an epoch closes, or drains, those of all others; those of that epoch stay, in whatever state; who waits waits on.
func TestDrain(t *testing.T) {
	for _, x := range []struct {
		epochs []uint64
		then   string
	}{
		{[]uint64{2}, lookAt(theirInfos(), []int{18, 19})},
		{[]uint64{1, 0, 3, math.MaxUint64}, "1 D11 e1 f7 s1 / 4 D14 e2 f8 s4 / 6 D16 e2 f9 s6; 18 19"},
	} {
		for _, epoch := range x.epochs {
			drain := fmt.Sprintf("D%d", epoch)
			checkSteps(t, made(t, theirSet, inAllStates), step{drain, answer{}, x.then}, step{drain, answer{}, ""})
		}
	}
	mixed := "A1,2,1 A2,2,2 A3,2,3 S1,7 A4,3,4 A5,3,5 A6,3,6 S4,8 G3,8 G6,9"
	checkSteps(t, made(t, set{6, 1, 5}, mixed), step{"D3", answer{}, "1 D1 e2 f7 s1 / 4 L4 e3 f8 s4 / 5 L5 e3 f0 s5 / 6 I0 e3 f0 s9; "})
	checkSteps(t, made(t, set{6, 1, 5}, mixed), step{"D2", answer{}, "1 L1 e2 f7 s1 / 2 L2 e2 f0 s2 / 3 I0 e2 f0 s8 / 4 D4 e3 f8 s4; "})
	checkSteps(t, made(t, set{6, 1, 5}, mixed), step{"D4", answer{}, "1 D1 e2 f7 s1 / 4 D4 e3 f8 s4; "})
	checkSteps(t, made(t, set{6, 1, 5}, ""), step{"D4 D0", answer{}, none})
}

// P10.3: what Send, Soil, Release, Reply and Break do behind Drain.
func TestBehindDrain(t *testing.T) {
	checkSteps(t, made(t, theirSet, inAllStates+" D3"),
		step{"S1,5 S4,5 S6,5", failed(api.ErrState), "1 D11 e1 f7 s1 / 4 D14 e2 f8 s4 / 6 D16 e2 f9 s6; 18 19"},
		step{"S1,0", failed(api.ErrArg), ""},
		step{"S3,5 S5,5 S7,5 S7,0", failed(api.ErrName), ""},
		step{"O1 O4 G1,9 G6,9 R1,8 R4,7 R1,0 R3,7", answer{}, ""},
		step{"A11,3,9 A14,3,9 A16,3,9 A18,3,9", failed(api.ErrState), ""},
		step{"R4,8", yes, "1 D11 e1 f7 s1 / 6 D16 e2 f9 s6; 18 19"},
		step{"R4,8", answer{}, ""},
		step{"B6", broken(9, 16), "1 D11 e1 f7 s1; 18 19"},
		step{"V3,9", served(18, 8), "1 D11 e1 f7 s1 / 8 L18 e3 f0 s9; 19"},
		step{"R1,7", yes, "8 L18 e3 f0 s9; 19"},
	)
}

// P10.4: Reap closes several, each by its own Since, whoever waits; it leaves those that aren't Idle, however old.
func TestReap(t *testing.T) {
	checkOf(t, call{'P', 7, 0, 12}, many(0), same)
	checkOf(t, call{'P', 7, 0, 13}, many(1), out)
	checkOf(t, call{'P', 7, 0, math.MaxUint64}, many(1), out)
	for _, now := range []uint64{0, 1, 7, 8, 12} {
		checkOf(t, call{'P', 7, 0, now}, many(0), same)
	}
	start := "A1,1,0 A2,1,0 A3,1,0 A4,1,0 A5,1,0 A6,1,0 G1,20 G2,10 G3,30 G4,10 G5,99"
	checkSteps(t, made(t, set{6, 0, 5}, start),
		step{"P0 P4 P9 P10 P14", many(0), "1 I0 e1 f0 s20 / 2 I0 e1 f0 s10 / 3 I0 e1 f0 s30 / 4 I0 e1 f0 s10 / 5 I0 e1 f0 s99 / 6 L6 e1 f0 s0; "},
		step{"P15", many(2), "1 I0 e1 f0 s20 / 3 I0 e1 f0 s30 / 5 I0 e1 f0 s99 / 6 L6 e1 f0 s0; "},
		step{"P15 P24 P3", many(0), ""},
		step{"P40", many(2), "5 I0 e1 f0 s99 / 6 L6 e1 f0 s0; "},
		step{"P103", many(0), ""},
		step{"P104", many(1), "6 L6 e1 f0 s0; "},
		step{"P104 P18446744073709551615", many(0), ""},
		step{"A7,1,105", got(7), "6 L6 e1 f0 s0 / 7 L7 e1 f0 s105; "},
	)
	checkSteps(t, made(t, set{6, 0, 5}, start+" G6,7"), step{"P18446744073709551615", many(6), none}, step{"P18446744073709551615", many(0), none})
	checkSteps(t, made(t, set{6, 0, 5}, ""), step{"P0 P9 P18446744073709551615", many(0), none})
}

// P10.4: one that is lent again isn't closed, though it was opened long ago; given back, it counts from then on.
func TestReapLentAgain(t *testing.T) {
	checkSteps(t, made(t, set{1, 0, 5}, "A1,1,1 G1,2"),
		step{"A2,1,3", got(1), "1 L2 e1 f0 s2; "},
		step{"P50", many(0), ""},
		step{"G1,60", yes, "1 I0 e1 f0 s60; "},
		step{"P64 P50", many(0), ""},
		step{"P65", many(1), none},
	)
}

// Ids rise and never come back, however a connection came out.
func TestIds(t *testing.T) {
	p := made(t, set{1, 1, 5}, "")
	ends := []string{"B%[1]d", "O%[1]d G%[1]d,2", "D2", "G%[1]d,2 B%[1]d", "G%[1]d,2 D2", "G%[1]d,2 P7", "S%[1]d,4 D2 R%[1]d,4", "S%[1]d,4 B%[1]d", "S%[1]d,4 D2 B%[1]d"}
	for i := range 3000 {
		if id, e := p.Acquire(8, 1, 1); id != i+1 || e != api.OK {
			t.Fatalf("Acquire number %d: %d, %d", i+1, id, e)
		}
		end := ends[i%len(ends)]
		if strings.Contains(end, "%") {
			end = fmt.Sprintf(end, i+1)
		}
		for _, c := range calls(end) {
			asPool(p, c)
		}
		checkLook(t, end, p, none)
	}
	checkSteps(t, p, step{"S1,1 S3000,1", failed(api.ErrName), none}, step{"B1 B3000", answer{}, none}, step{"A8,2,3", got(3001), "3001 L8 e2 f0 s3; "})
}

// held is a connection of the model.
type held struct {
	state, owner         int
	epoch, flight, since uint64
	dirty                bool
}

// model is a pool in another form: all connections that ever were stand in it, each at its id, also those that are Closed.
type model struct {
	set
	all []held
	row []int
}

func (m *model) conns() []pool.Info {
	var l []pool.Info
	for i, h := range m.all {
		if h.state != conn.Closed {
			l = append(l, pool.Info{Id: i + 1, State: h.state, Owner: h.owner, Epoch: h.epoch, Flight: h.flight, Since: h.since})
		}
	}
	return l
}

func (m *model) of(id int) *held {
	if id < 1 || id > len(m.all) || m.all[id-1].state == conn.Closed {
		return &held{state: conn.Closed}
	}
	return &m.all[id-1]
}

func (h *held) close() { *h = held{state: conn.Closed} }

func (h *held) drain() {
	if h.flight == 0 {
		h.close()
		return
	}
	h.state = conn.Draining
}

func (m *model) give(session int, epoch, now uint64) int {
	least, open := 0, 0
	for i := range m.all {
		h := &m.all[i]
		if h.state == conn.Idle && h.epoch != epoch {
			h.close()
		}
		if h.state == conn.Idle && least == 0 {
			least = i + 1
		}
		if h.state != conn.Closed {
			open++
		}
	}
	if least == 0 && open < m.most {
		m.all = append(m.all, held{epoch: epoch, since: now})
		least = len(m.all)
	}
	if least != 0 {
		m.all[least-1].state, m.all[least-1].owner = conn.Lent, session
	}
	return least
}

func (m *model) acquire(c call) answer {
	busy := slices.Contains(m.row, c.id)
	for _, h := range m.all {
		busy = busy || h.state != conn.Closed && h.owner == c.id
	}
	switch {
	case c.id <= 0:
		return failed(api.ErrArg)
	case busy:
		return failed(api.ErrState)
	}
	if len(m.row) == 0 {
		if id := m.give(c.id, c.n, c.now); id != 0 {
			return got(id)
		}
	}
	if len(m.row) >= m.wait {
		return failed(api.ErrFull)
	}
	m.row = append(m.row, c.id)
	return failed(api.ErrNone)
}

func (m *model) serve(c call) answer {
	if len(m.row) == 0 {
		return answer{}
	}
	id, first := m.give(m.row[0], c.n, c.now), m.row[0]
	if id == 0 {
		return answer{}
	}
	m.row = slices.Clone(m.row[1:])
	return served(first, id)
}

// lent is what is done of one that isn't Closed.
func (m *model) lent(c call, h *held) answer {
	isLent := h.state == conn.Lent
	switch {
	case c.do == 'S' && c.n == 0:
		return failed(api.ErrArg)
	case c.do == 'S' && (!isLent || h.flight != 0):
		return failed(api.ErrState)
	case c.do == 'S':
		h.flight = c.n
		return answer{}
	case c.do == 'R' && c.n != 0 && c.n == h.flight && h.state == conn.Draining:
		h.close()
		return yes
	case c.do == 'R' && c.n != 0 && c.n == h.flight:
		h.flight = 0
		return yes
	case c.do == 'O' && isLent:
		h.dirty = true
		return yes
	case c.do == 'G' && isLent && h.flight == 0 && h.dirty:
		h.close()
		return yes
	case c.do == 'G' && isLent && h.flight == 0:
		h.state, h.owner, h.since = conn.Idle, 0, c.now
		return yes
	case c.do == 'B':
		was := *h
		h.close()
		return broken(was.flight, was.owner)
	}
	return answer{}
}

func (m *model) do(c call) answer {
	count := 0
	switch c.do {
	case 'A':
		return m.acquire(c)
	case 'V':
		return m.serve(c)
	case 'L':
		at := slices.Index(m.row, c.id)
		if at < 0 {
			return answer{}
		}
		m.row = slices.Delete(slices.Clone(m.row), at, at+1)
		return yes
	case 'D':
		for i := range m.all {
			if h := &m.all[i]; h.state != conn.Closed && h.epoch != c.n {
				h.drain()
			}
		}
	case 'P':
		for i := range m.all { // asked the other way round: of the time at which one is too old
			if h := &m.all[i]; h.state == conn.Idle && c.now >= m.idle && h.since <= c.now-m.idle {
				h.close()
				count++
			}
		}
	default:
		h := m.of(c.id)
		if h.state != conn.Closed {
			return m.lent(c, h)
		}
		if c.do == 'S' {
			return failed(api.ErrName)
		}
	}
	return many(count)
}

// checkCalls makes calls of a pool and of its model, and holds what they answer, and what they tell behind each, against each other.
func checkCalls(t *testing.T, s set, l []call) {
	t.Helper()
	p, m := made(t, s, ""), &model{set: s}
	for i, c := range l {
		is, want := asPool(p, c), m.do(c)
		conns, waiting := p.Conns(), p.Waiting()
		if is != want || !slices.Equal(conns, m.conns()) || !slices.Equal(waiting, m.row) {
			t.Fatalf("%v, calls %v: %+v, not %+v; %s\nnot %s", s, l[max(0, i-20):i+1], is, want, lookAt(conns, waiting), lookAt(m.conns(), m.row))
		}
	}
}

// listsOf goes through all lists of so many of some calls, behind a start.
func listsOf(start, some []call, many int, do func(l []call)) {
	if many == 0 {
		do(start)
		return
	}
	for _, c := range some {
		listsOf(append(start[:len(start):len(start)], c), some, many-1, do)
	}
}

// P10.1 to P10.4: all short lists of calls, behind several starts, against the model.
func TestShortCalls(t *testing.T) {
	few := calls("A1,1,1 A2,1,2 A3,2,3 V1,4 V2,5 L2 S1,7 R1,7 O1 G1,6 G2,7 B1 D1 D2 P9")
	for _, s := range []set{{1, 1, 3}, {2, 1, 2}} {
		listsOf(nil, few, 4, func(l []call) { checkCalls(t, s, l) })
	}
	more := append(few, calls("A0,1,1 A4,1,3 V3,6 S2,8 S1,0 R2,8 R1,8 O2 G3,8 B2 B3 D3 P8")...)
	for _, start := range []string{"", "A1,1,1 A2,1,1 A3,1,1", "A1,1,1 A2,1,1 A3,1,1 S1,7 S2,8 D2", "A1,1,1 A2,1,1 A3,1,1 A4,1,1 G2,6", "A1,1,1 A2,2,1 A3,2,1 G1,5 O2", "A1,1,1 A2,1,1 A3,1,2 O1 S1,7 S2,8 B1"} {
		for _, s := range []set{{1, 2, 3}, {2, 2, 3}, {3, 1, 1}} {
			listsOf(calls(start), more, 3, func(l []call) { checkCalls(t, s, l) })
		}
	}
}

// drawn is how calls are drawn.
type drawn struct {
	letters  string // the more often a letter stands there, the more often it is drawn
	sessions int
	epochs   int
	rises    bool // whether times rise
}

// drawnCalls are for a pool, and so that many of them are of connections that are there: ids are told by the model that has made the calls ahead.
func drawnCalls(draws *rand.Rand, s set, how drawn, many int) []call {
	m := &model{set: s}
	var l []call
	for i := range many {
		c := call{do: how.letters[draws.Intn(len(how.letters))], now: uint64(draws.Intn(20))}
		if how.rises {
			c.now = uint64(i)
		}
		if draws.Intn(50) == 0 {
			c.now = []uint64{0, 1 << 63, math.MaxUint64, math.MaxUint64 - 1}[draws.Intn(4)]
		}
		c.id, c.n = 1+draws.Intn(how.sessions), 1+uint64(draws.Intn(how.epochs))
		if strings.ContainsRune("SROGB", rune(c.do)) {
			c.id = len(m.all) - draws.Intn(s.most+1)
			c.n = uint64(draws.Intn(3))
		}
		if conns := m.conns(); len(conns) > 0 && c.do != 'A' && c.do != 'L' && draws.Intn(8) > 0 {
			c.id = conns[draws.Intn(len(conns))].Id
		}
		l = append(l, c)
		m.do(c)
	}
	return l
}

// runs are several ways to draw calls: of all kinds; with many who wait; with few that end; with many that are drained.
func runs() []drawn {
	return []drawn{
		{"AAAVLSRROGGBDP", 10, 2, false},
		{"AAAAAAAAVLSRRGG", 25, 1, true},
		{"AAAAVVSSRRRROGGGGGP", 8, 1, true},
		{"AAAVVSSSSRDDDGLB", 10, 3, false},
		{"AAAVVGGGGP", 5, 2, true},
	}
}

// drawnSet is one of those that may be, often a small one.
func drawnSet(draws *rand.Rand) set {
	s := set{1 + draws.Intn(api.MostCap), draws.Intn(api.MostWait + 1), 1 + uint64(draws.Intn(9))}
	if draws.Intn(2) == 0 {
		s.most, s.wait = 1+draws.Intn(2), draws.Intn(3)
	}
	if draws.Intn(9) == 0 {
		s.idle = math.MaxUint64
	}
	return s
}

// P10.1 to P10.4: long runs of drawn calls, against the model.
func TestDrawnCalls(t *testing.T) {
	draws := rand.New(rand.NewSource(10))
	for range 400 {
		for _, how := range runs() {
			s := drawnSet(draws)
			checkCalls(t, s, drawnCalls(draws, s, how, 300))
		}
	}
	for _, how := range runs() {
		s := drawnSet(draws)
		checkCalls(t, s, drawnCalls(draws, s, how, 4000))
	}
}

// watch holds a pool's bounds against what it tells, call by call, without the model.
type watch struct {
	set
	last  int   // the greatest id that was told
	queue []int // who waits, by what Acquire, Serve and Leave answered
}

func (w *watch) heed(t *testing.T, c call, a answer, p *pool.Pool) {
	t.Helper()
	switch {
	case c.do == 'A' && a.e == api.ErrNone:
		w.queue = append(w.queue, c.id)
	case c.do == 'L' && a.is:
		w.queue = slices.DeleteFunc(w.queue, func(session int) bool { return session == c.id })
	case c.do == 'V' && a.is:
		if len(w.queue) == 0 || w.queue[0] != a.session {
			t.Fatalf("%d was served, of %v", a.session, w.queue)
		}
		w.queue = w.queue[1:]
	case c.do == 'A' && a.id != 0 && len(w.queue) != 0:
		t.Fatalf("%d was given one ahead of %v", c.id, w.queue)
	}
	if a.id > w.last+1 {
		t.Fatalf("the id %d behind %d", a.id, w.last)
	}
	w.last = max(w.last, a.id)
	w.heedLook(t, c, p.Conns(), p.Waiting())
}

func (w *watch) heedLook(t *testing.T, c call, conns []pool.Info, waiting []int) {
	t.Helper()
	look := lookAt(conns, waiting)
	if len(conns) > w.most || len(waiting) > w.wait || !slices.Equal(waiting, w.queue) {
		t.Fatalf("%v: %s", w.set, look)
	}
	busy := slices.Clone(waiting)
	id := 0
	for _, i := range conns {
		lent := i.State == conn.Lent || i.State == conn.Draining
		if i.Id <= id || i.Id > w.last || !lent && i.State != conn.Idle || lent != (i.Owner != 0) || i.Flight != 0 && !lent || i.State == conn.Draining && i.Flight == 0 {
			t.Fatalf("%v, the connection %d: %s", w.set, i.Id, look)
		}
		if c.do == 'D' && i.Epoch != c.n && i.State != conn.Draining {
			t.Fatalf("Drain of %d: %s", c.n, look)
		}
		id = i.Id
		if lent {
			busy = append(busy, i.Owner)
		}
	}
	slices.Sort(busy)
	if len(slices.Compact(slices.Clone(busy))) != len(busy) {
		t.Fatalf("%v, one session twice: %s", w.set, look)
	}
}

// P10.5: what follows, in long runs of drawn calls.
func TestBounds(t *testing.T) {
	draws := rand.New(rand.NewSource(105))
	for range 300 {
		for _, how := range runs() {
			s := drawnSet(draws)
			p, w := made(t, s, ""), &watch{set: s}
			for _, c := range drawnCalls(draws, s, how, 300) {
				w.heed(t, c, asPool(p, c), p)
			}
		}
	}
}

// P10.5: behind Drain, till another epoch is asked for, none of another epoch is idle, or lent, whatever comes.
func TestEpochsBehindDrain(t *testing.T) {
	draws := rand.New(rand.NewSource(106))
	for range 500 {
		s := drawnSet(draws)
		p := made(t, s, "")
		for _, c := range drawnCalls(draws, s, runs()[3], 60) {
			asPool(p, c)
		}
		p.Drain(9)
		for range 100 {
			c := call{"AAVLSRROGGBP"[draws.Intn(12)], 1 + draws.Intn(10), 9, uint64(draws.Intn(30))}
			if conns := p.Conns(); c.do != 'A' && c.do != 'L' && len(conns) > 0 {
				i := conns[draws.Intn(len(conns))]
				c.id = i.Id
				if c.do == 'R' {
					c.n = i.Flight
				}
			}
			asPool(p, c)
			for _, i := range p.Conns() {
				if i.Epoch != 9 && i.State != conn.Draining {
					t.Fatalf("behind Drain(9), %v: %s", c, lookAt(p.Conns(), p.Waiting()))
				}
			}
		}
	}
}

// R3: what a caller does to what Conns and Waiting answered changes neither the pool, nor another answer.
func TestAnswersAreTheirOwn(t *testing.T) {
	p := made(t, theirSet, inAllStates)
	want := lookAt(theirInfos(), []int{18, 19})
	conns, waiting := p.Conns(), p.Waiting()
	other, others := p.Conns(), p.Waiting()
	for i := range conns {
		conns[i] = pool.Info{Id: 99, State: conn.Closed, Owner: 99}
	}
	for i := range waiting {
		waiting[i] = 99
	}
	_ = append(conns[:cap(conns)], pool.Info{Id: 98})
	_ = append(waiting[:0], 98, 97, 96)
	checkLook(t, "what was answered is changed", p, want)
	if l := lookAt(other, others); l != want {
		t.Errorf("another answer: %s", l)
	}
	checkSteps(t, p,
		step{"A19,2,1 A13,2,1", failed(api.ErrState), ""},
		step{"R4,8", yes, theirLook(4, func(i *pool.Info) { i.Flight = 0 })},
		step{"V2,9", served(18, 7), "1 D11 e1 f7 s1 / 3 L13 e2 f0 s3 / 4 L14 e2 f0 s4 / 5 L15 e2 f0 s5 / 6 L16 e2 f9 s6 / 7 L18 e2 f0 s8; 19"},
	)
}

// R3: what was answered stays, whatever is called behind that.
func TestAnswersStay(t *testing.T) {
	p := made(t, theirSet, inAllStates)
	conns, waiting := p.Conns(), p.Waiting()
	for _, c := range calls("V2,9 B3 R4,8 D9 L19 A30,9,9 A31,9,9 A32,9,9 P99") {
		asPool(p, c)
		if l := lookAt(conns, waiting); l != lookAt(theirInfos(), []int{18, 19}) {
			t.Fatalf("behind %v: %s", c, l)
		}
	}
}

// R5: several pools, whose calls come in turn, each against its own model.
func TestPoolsAreApart(t *testing.T) {
	draws := rand.New(rand.NewSource(107))
	for range 60 {
		var pools []*pool.Pool
		var models []*model
		var lists [][]call
		for i := range 5 {
			s := drawnSet(draws)
			pools, models = append(pools, made(t, s, "")), append(models, &model{set: s})
			lists = append(lists, drawnCalls(draws, s, runs()[i], 100))
		}
		for range 400 {
			i := draws.Intn(len(pools))
			if len(lists[i]) == 0 {
				continue
			}
			c := lists[i][0]
			lists[i] = lists[i][1:]
			if is, want := asPool(pools[i], c), models[i].do(c); is != want {
				t.Fatalf("pool %d, %v: %+v, not %+v", i, c, is, want)
			}
			for j, p := range pools {
				if !slices.Equal(p.Conns(), models[j].conns()) || !slices.Equal(p.Waiting(), models[j].row) {
					t.Fatalf("pool %d behind %v of %d: %s", j, c, i, lookAt(p.Conns(), p.Waiting()))
				}
			}
		}
	}
}

// R4: the same calls, in the same order, answer the same.
func TestTheSameAgain(t *testing.T) {
	for i := range 40 {
		draws := rand.New(rand.NewSource(int64(i)))
		s := drawnSet(draws)
		l := drawnCalls(draws, s, runs()[i%len(runs())], 100)
		var first []string
		for round := range 4 {
			p := made(t, s, "")
			var all []string
			for _, c := range l {
				all = append(all, fmt.Sprint(asPool(p, c), lookAt(p.Conns(), p.Waiting())))
			}
			if round == 0 {
				first = all
			}
			if !slices.Equal(all, first) {
				t.Fatal("other answers than the first time")
			}
		}
	}
}
