package health_test

import (
	"math"
	"math/rand"
	"slices"
	"strings"
	"testing"

	"signalman/api"
	"signalman/health"
)

// The numbers are written out here, so that a changed one is seen.
const (
	online     = 1
	shunned    = 2
	recovering = 3
	offline    = 4
	most       = 1000
)

// settings are such as may be, of small rows, of the greatest, and of each beside the other.
func settings() []health.Config {
	var l []health.Config
	for _, fails := range []int{1, 2, 3, most} {
		for _, passes := range []int{1, 2, 3, most} {
			for _, lag := range []uint64{0, 1, 5, most} {
				l = append(l, health.Config{Fails: fails, Passes: passes, Lag: lag})
			}
		}
	}
	return l
}

// strange are numbers of states that are none of the four.
func strange() []int {
	return []int{0, 5, 6, 7, 8, -1, -2, -3, -4, 255, 256, 257, 260, 1<<16 + 1, 1<<32 + 1, 1<<32 + 2, 1<<32 + 3, 1<<32 + 4, math.MaxInt - 1, math.MaxInt, math.MinInt, math.MinInt + 1, math.MinInt + 2, math.MinInt + 3, math.MinInt + 4}
}

// counts are those that a state may have about the borders of settings.
func counts() []int { return []int{0, 1, 2, 3, 4, 7, most - 2, most - 1, most} }

// passing are probes that pass by these settings: the last one lags just as far as they say.
func passing(c health.Config) []health.Probe {
	return []health.Probe{{OK: true}, {OK: true, Lag: c.Lag / 2}, {OK: true, Lag: c.Lag}}
}

// lagging are probes that have an answer, and don't pass: the first one lags by one more than they say.
func lagging(c health.Config) []health.Probe {
	return []health.Probe{{OK: true, Lag: c.Lag + 1}, {OK: true, Lag: c.Lag + most}, {OK: true, Lag: 1 << 32}, {OK: true, Lag: 1 << 63}, {OK: true, Lag: math.MaxUint64}}
}

// silent are probes that have no answer, whatever their Lag.
func silent(c health.Config) []health.Probe {
	return []health.Probe{{}, {Lag: c.Lag / 2}, {Lag: c.Lag}, {Lag: c.Lag + 1}, {Lag: math.MaxUint64}}
}

func probes(c health.Config) []health.Probe {
	return slices.Concat(passing(c), lagging(c), silent(c))
}

// states are the four, and others, with each Count.
func states() []health.State {
	var l []health.State
	for _, is := range append(strange(), online, shunned, recovering, offline) {
		for _, count := range counts() {
			l = append(l, health.State{Is: is, Count: count})
		}
	}
	return l
}

func checkStep(t *testing.T, c health.Config, s health.State, p health.Probe, want health.State) {
	t.Helper()
	if next := health.Step(c, s, p); next != want {
		t.Errorf("Step(%+v, %v, %+v): %v, not %v", c, s, p, next, want)
	}
}

func checkRight(t *testing.T, c health.Config, want bool) {
	t.Helper()
	if right := health.Right(c); right != want {
		t.Errorf("Right(%+v): %v", c, right)
	}
}

// after tells how a node is behind so many probes of that kind, one behind the other.
func after(c health.Config, s health.State, p health.Probe, times int) health.State {
	for range times {
		s = health.Step(c, s, p)
	}
	return s
}

// P12.1, P12.2: the numbers of the four.
func TestNumbers(t *testing.T) {
	if health.Online != 1 || health.Shunned != 2 || health.Recovering != 3 || health.Offline != 4 {
		t.Errorf("%d, %d, %d, %d", health.Online, health.Shunned, health.Recovering, health.Offline)
	}
}

// The document's example.
func TestExample(t *testing.T) {
	c := health.Config{Fails: 2, Passes: 2}
	checkStep(t, c, health.State{Is: online, Count: 1}, health.Probe{}, health.State{Is: shunned})
}

// P12.1: Fails and Passes are from 1 to MostTime each, whatever the others are.
func TestRightOfRows(t *testing.T) {
	numbers := []int{0, 1, 2, 500, most - 1, most, most + 1, most + 2, 2 * most, -1, -2, -most, 1 << 16, 1<<16 + 1, 1 << 31, 1 << 32, 1<<32 + 1, 1<<32 + most, -1 << 32, -1<<32 + 1, 1<<32 - 1, math.MaxInt - 1, math.MaxInt, math.MinInt, math.MinInt + 1, math.MinInt + 2}
	for _, n := range numbers {
		may := n >= 1 && n <= 1000
		for _, other := range []int{1, 2, 500, most} {
			for _, lag := range []uint64{0, 1, 500, most} {
				checkRight(t, health.Config{Fails: n, Passes: other, Lag: lag}, may)
				checkRight(t, health.Config{Fails: other, Passes: n, Lag: lag}, may)
			}
		}
		for _, other := range numbers { // one that may be makes up for none that may not, nor do two that may not for each other
			checkRight(t, health.Config{Fails: n, Passes: other}, may && other >= 1 && other <= 1000)
		}
	}
}

// P12.1: Lag is from 0 to MostTime.
func TestRightOfLag(t *testing.T) {
	for _, lag := range []uint64{0, 1, 2, 500, most - 1, most, most + 1, most + 2, 1 << 16, 1 << 31, 1 << 32, 1<<32 + 1, 1<<63 - 1, 1 << 63, 1<<63 + 1, math.MaxUint64 - 1, math.MaxUint64} {
		for _, n := range []int{1, 2, most} {
			checkRight(t, health.Config{Fails: n, Passes: n, Lag: lag}, lag <= 1000)
		}
		checkRight(t, health.Config{Fails: 0, Passes: 1, Lag: lag}, false)
		checkRight(t, health.Config{Fails: 1, Passes: 0, Lag: lag}, false)
		checkRight(t, health.Config{Fails: 1001, Passes: 1, Lag: lag}, false)
		checkRight(t, health.Config{Fails: 1, Passes: 1001, Lag: lag}, false)
	}
	checkRight(t, health.Config{}, false)
	for _, c := range settings() {
		checkRight(t, c, true)
	}
}

// P12.1: one that is Online serves, whatever its Count; no other one does.
func TestServes(t *testing.T) {
	for _, s := range append(states(), oddCounts()...) {
		if health.Serves(s) != (s.Is == 1) {
			t.Errorf("Serves(%v): %v", s, health.Serves(s))
		}
	}
}

// oddCounts are states whose Count none of the promises of Step speaks of.
func oddCounts() []health.State {
	var l []health.State
	for _, is := range append(strange(), online, shunned, recovering, offline) {
		for _, count := range []int{-1, -most, most + 1, 1 << 32, math.MaxInt, math.MinInt} {
			l = append(l, health.State{Is: is, Count: count})
		}
	}
	return l
}

// P12.1: Off of any is Offline, and has no Count.
func TestOff(t *testing.T) {
	for _, s := range append(states(), oddCounts()...) {
		if off := health.Off(s); off != (health.State{Is: 4}) {
			t.Errorf("Off(%v): %v", s, off)
		}
	}
}

// P12.1: On of one that is Offline, whatever its Count, is Shunned without one; all others stay, Count with them.
func TestOn(t *testing.T) {
	for _, s := range append(states(), oddCounts()...) {
		want := s
		if s.Is == 4 {
			want = health.State{Is: 2}
		}
		if on := health.On(s); on != want {
			t.Errorf("On(%v): %v, not %v", s, on, want)
		}
	}
}

// P12.1, P12.2: one that was taken away serves only when it has come back and passed its probes.
func TestOffAndOn(t *testing.T) {
	c := health.Config{Fails: 2, Passes: 2, Lag: 3}
	for _, s := range states() {
		off := health.Off(s)
		if health.Serves(off) || health.Serves(after(c, off, health.Probe{OK: true}, 5)) {
			t.Errorf("%v: serves while it is Offline", s)
		}
		on := health.On(off)
		if health.Serves(on) || health.On(on) != on {
			t.Errorf("%v: serves as soon as it comes back", s)
		}
		checkStep(t, c, on, health.Probe{OK: true, Lag: 3}, health.State{Is: recovering, Count: 1})
		if !health.Serves(after(c, on, health.Probe{OK: true, Lag: 3}, 2)) {
			t.Errorf("%v: doesn't serve though it passed", s)
		}
	}
}

// P12.2: Online: one that passes begins the row of failures again; one that lags shuns at once; one without an answer raises the Count, up to Fails.
func TestStepOnline(t *testing.T) {
	for _, c := range settings() {
		for _, count := range counts() {
			s := health.State{Is: online, Count: count}
			for _, p := range passing(c) {
				checkStep(t, c, s, p, health.State{Is: online})
			}
			for _, p := range lagging(c) {
				checkStep(t, c, s, p, health.State{Is: shunned})
			}
			want := health.State{Is: online, Count: count + 1}
			if want.Count >= c.Fails {
				want = health.State{Is: shunned}
			}
			for _, p := range silent(c) {
				checkStep(t, c, s, p, want)
			}
		}
	}
}

// P12.2: Shunned: one that passes is the first of its row, whatever the Count was; of all others it stays so, without a Count.
func TestStepShunned(t *testing.T) {
	for _, c := range settings() {
		first := health.State{Is: recovering, Count: 1}
		if c.Passes == 1 {
			first = health.State{Is: online}
		}
		for _, count := range counts() {
			s := health.State{Is: shunned, Count: count}
			for _, p := range passing(c) {
				checkStep(t, c, s, p, first)
			}
			for _, p := range append(lagging(c), silent(c)...) {
				checkStep(t, c, s, p, health.State{Is: shunned})
			}
		}
	}
}

// P12.2: Recovering: one that passes raises the Count, up to Passes; all others shun it.
func TestStepRecovering(t *testing.T) {
	for _, c := range settings() {
		for _, count := range counts() {
			s := health.State{Is: recovering, Count: count}
			want := health.State{Is: recovering, Count: count + 1}
			if want.Count >= c.Passes {
				want = health.State{Is: online}
			}
			for _, p := range passing(c) {
				checkStep(t, c, s, p, want)
			}
			for _, p := range append(lagging(c), silent(c)...) {
				checkStep(t, c, s, p, health.State{Is: shunned})
			}
		}
	}
}

// P12.2: Offline, and any that is none of the four, stays as it is, by any probe, Count with it.
func TestStepOthers(t *testing.T) {
	for _, c := range settings() {
		for _, s := range states() {
			if s.Is >= 1 && s.Is <= 3 {
				continue
			}
			for _, p := range probes(c) {
				checkStep(t, c, s, p, s)
			}
		}
	}
}

// P12.2: with each Count about the setting, and the other setting far from it, so that none is taken for the other.
func TestStepAboutTheSetting(t *testing.T) {
	no, ok := health.Probe{}, health.Probe{OK: true}
	for n := 2; n <= most; n += 7 {
		fails, passes := health.Config{Fails: n, Passes: 1}, health.Config{Fails: 1, Passes: n}
		checkStep(t, fails, health.State{Is: online, Count: n - 2}, no, health.State{Is: online, Count: n - 1})
		checkStep(t, passes, health.State{Is: recovering, Count: n - 2}, ok, health.State{Is: recovering, Count: n - 1})
		for _, count := range []int{n - 1, n, n + 1, most} {
			checkStep(t, fails, health.State{Is: online, Count: count}, no, health.State{Is: shunned})
			checkStep(t, passes, health.State{Is: recovering, Count: count}, ok, health.State{Is: online})
		}
	}
}

// watched is a node by all that befell it since it was Online, or Shunned, last: p passed, l lagged, n had no answer.
type watched struct {
	serves bool
	since  string
}

// told tells how the node is that a probe of that letter is told of: by the row that ends what befell it.
func (w watched) told(c health.Config, letter string) watched {
	w.since += letter
	switch {
	case w.serves && (letter == "l" || strings.HasSuffix(w.since, strings.Repeat("n", c.Fails))):
		return watched{false, ""}
	case !w.serves && strings.HasSuffix(w.since, strings.Repeat("p", c.Passes)):
		return watched{true, ""}
	}
	return w
}

// state is the node as Step tells it: its Count is the row that what befell it ends with.
func (w watched) state() health.State {
	if w.serves {
		return health.State{Is: online, Count: len(w.since) - len(strings.TrimRight(w.since, "n"))}
	}
	row := len(w.since) - len(strings.TrimRight(w.since, "p"))
	if row == 0 {
		return health.State{Is: shunned}
	}
	return health.State{Is: recovering, Count: row}
}

// letters are the probes of a row, one by one.
func letters(c health.Config, l string) []health.Probe {
	var all []health.Probe
	for i, letter := range l {
		kind := silent(c)
		switch letter {
		case 'p':
			kind = passing(c)
		case 'l':
			kind = lagging(c)
		}
		all = append(all, kind[i%len(kind)])
	}
	return all
}

// checkRow holds each step of a row of probes against all that befell the node.
func checkRow(t *testing.T, c health.Config, begin health.State, row string) {
	t.Helper()
	w, s := watched{begin.Is == online, ""}, begin
	for i, p := range letters(c, row) {
		w = w.told(c, row[i:i+1])
		s = health.Step(c, s, p)
		if s != w.state() || health.Serves(s) != w.serves {
			t.Fatalf("%+v, %v, probes %s: %v, not %v", c, begin, row[:i+1], s, w.state())
		}
	}
}

// rows are all rows of probes of that length.
func rows(length int) []string {
	all := []string{""}
	for range length {
		var next []string
		for _, row := range all {
			next = append(next, row+"p", row+"l", row+"n")
		}
		all = next
	}
	return all
}

// P12.2, P12.3: all rows of probes, and drawn long ones, tell the same as all that befell the node.
func TestRows(t *testing.T) {
	for _, begin := range []health.State{{Is: online}, {Is: shunned}} {
		for fails := 1; fails <= 3; fails++ {
			for passes := 1; passes <= 3; passes++ {
				for _, row := range rows(7) {
					checkRow(t, health.Config{Fails: fails, Passes: passes, Lag: uint64(fails + passes)}, begin, row)
				}
			}
		}
	}
	draws := rand.New(rand.NewSource(12))
	for range 2000 {
		row := ""
		for range 10 {
			row += strings.Repeat([]string{"p", "p", "n", "n", "l"}[draws.Intn(5)], 1+draws.Intn(9))
		}
		c := health.Config{Fails: 1 + draws.Intn(9), Passes: 1 + draws.Intn(9), Lag: uint64(draws.Intn(1001))}
		checkRow(t, c, health.State{Is: online + draws.Intn(2)}, row)
	}
}

// P12.3: behind Passes probes that pass a node that isn't Offline is Online, wherever it began; behind one fewer it is only if it was, or had a Count already.
func TestPasses(t *testing.T) {
	for _, c := range settings() {
		for _, count := range counts() {
			for _, p := range passing(c) {
				for _, is := range []int{online, shunned, recovering} {
					s := health.State{Is: is, Count: count}
					if all := after(c, s, p, c.Passes); all != (health.State{Is: online}) {
						t.Errorf("%+v, %v: %v behind all", c, s, all)
					}
					fewer := health.Serves(after(c, s, p, c.Passes-1))
					if fewer != (is == online || is == recovering && count > 0 && c.Passes > 1) {
						t.Errorf("%+v, %v: serves behind one fewer: %v", c, s, fewer)
					}
				}
				if s := (health.State{Is: offline, Count: count}); after(c, s, p, c.Passes) != s {
					t.Errorf("%+v: one that is Offline has come back", c)
				}
			}
		}
	}
}

// P12.3: one fewer than Passes, from Shunned: it is Recovering with each Count on its way.
func TestPassesOnTheWay(t *testing.T) {
	for _, passes := range []int{2, 3, 10, most} {
		c, s := health.Config{Fails: 1, Passes: passes, Lag: 9}, health.State{Is: shunned, Count: 5}
		for n := 1; n < passes; n++ {
			s = health.Step(c, s, health.Probe{OK: true, Lag: 9})
			if s != (health.State{Is: recovering, Count: n}) {
				t.Fatalf("Passes %d: %v behind %d", passes, s, n)
			}
		}
		checkStep(t, c, s, health.Probe{OK: true, Lag: 9}, health.State{Is: online})
	}
}

// P12.3: behind Fails probes that fail no node is Online, wherever it began; behind one fewer one is that was, without a Count, if they had no answer.
func TestFails(t *testing.T) {
	for _, c := range settings() {
		for _, s := range states() {
			for _, p := range append(lagging(c), silent(c)...) {
				if health.Serves(after(c, s, p, c.Fails)) {
					t.Errorf("%+v, %v: serves behind %d of %v", c, s, c.Fails, p)
				}
			}
		}
		for _, p := range silent(c) {
			if s := after(c, health.State{Is: online}, p, c.Fails-1); s != (health.State{Is: online, Count: c.Fails - 1}) {
				t.Errorf("%+v: %v behind one fewer", c, s)
			}
			if c.Fails > 1 && health.Serves(after(c, health.State{Is: online, Count: 1}, p, c.Fails-1)) {
				t.Errorf("%+v: the Count that it had isn't counted", c)
			}
		}
	}
}

// P12.3: one that lags doesn't serve, however many failures it may have, and wherever it began.
func TestLagging(t *testing.T) {
	for _, c := range settings() {
		for _, s := range states() {
			for _, p := range lagging(c) {
				if health.Serves(health.Step(c, s, p)) {
					t.Errorf("%+v, %v, %+v: serves", c, s, p)
				}
			}
		}
	}
}

// P12.2, P12.3: one that passes breaks a row of failures, so that as many may come again; one that fails breaks a row of passes.
func TestBrokenRows(t *testing.T) {
	for _, n := range []int{2, 3, 50, most} {
		c := health.Config{Fails: n, Passes: n, Lag: 1}
		ok, no, far := health.Probe{OK: true, Lag: 1}, health.Probe{Lag: 1}, health.Probe{OK: true, Lag: 2}
		s := health.State{Is: online}
		for range 3 {
			s = health.Step(c, after(c, s, no, n-1), ok)
			if s != (health.State{Is: online}) {
				t.Fatalf("Fails %d: %v behind a row that was broken", n, s)
			}
		}
		if s = after(c, s, no, n); s != (health.State{Is: shunned}) {
			t.Fatalf("Fails %d: %v behind a whole row", n, s)
		}
		for _, breaks := range []health.Probe{no, far, no} {
			s = health.Step(c, after(c, s, ok, n-1), breaks)
			if s != (health.State{Is: shunned}) {
				t.Fatalf("Passes %d: %v behind a row that was broken", n, s)
			}
		}
		if s = after(c, s, ok, n); s != (health.State{Is: online}) {
			t.Fatalf("Passes %d: %v behind a whole row", n, s)
		}
	}
}

// R1: of settings, and of Counts, that may not be nothing is promised but that the calls end.
func TestWrongOnes(t *testing.T) {
	numbers := []int{0, -1, most + 1, math.MaxInt, math.MinInt}
	for _, fails := range numbers {
		for _, passes := range numbers {
			c := health.Config{Fails: fails, Passes: passes, Lag: math.MaxUint64}
			for _, s := range append(states(), oddCounts()...) {
				for _, p := range probes(c) {
					health.Step(c, s, p)
				}
			}
		}
	}
}

// R3: what a caller handed over stays as it was.
func TestArgumentsStay(t *testing.T) {
	for _, c := range settings() {
		for _, s := range states() {
			for _, p := range probes(c) {
				c2, s2, p2 := c, s, p
				health.Right(c)
				health.Step(c, s, p)
				health.Off(s)
				health.On(s)
				health.Serves(s)
				if c != c2 || s != s2 || p != p2 {
					t.Fatalf("%+v, %v, %+v", c, s, p)
				}
			}
		}
	}
}

// R4, R5: the same calls answer the same, whatever was asked ahead of them.
func TestTheSameAgain(t *testing.T) {
	c := health.Config{Fails: 3, Passes: 3, Lag: 7}
	for _, other := range settings() {
		for _, s := range states() {
			health.Right(health.Config{})
			health.Off(s)
			health.On(s)
			health.Serves(s)
			after(other, s, health.Probe{}, 2)
			after(other, s, health.Probe{OK: true}, 2)
			checkRight(t, c, true)
			checkStep(t, c, health.State{Is: online, Count: 1}, health.Probe{}, health.State{Is: online, Count: 2})
			checkStep(t, c, health.State{Is: recovering, Count: 1}, health.Probe{OK: true, Lag: 7}, health.State{Is: recovering, Count: 2})
		}
	}
	if api.MostTime != most {
		t.Errorf("MostTime is %d", api.MostTime)
	}
}
