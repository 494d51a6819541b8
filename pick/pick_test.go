package pick_test

import (
	"math"
	"math/big"
	"math/rand"
	"slices"
	"testing"

	"signalman/api"
	"signalman/pick"
)

// slots are the places, each as often as it weighs: a draw picks the one that stands at its remainder.
func slots(weights []int) []int {
	var l []int
	for place, weight := range weights {
		l = append(l, same(weight, place)...)
	}
	return l
}

// same is a list of so many, all of them that one.
func same[T any](count int, one T) []T { return slices.Repeat([]T{one}, count) }

// remainder is worked out without the machine's own numbers, as it must be right of the greatest draws too.
func remainder(draw uint64, sum int) int {
	n := new(big.Int).SetUint64(draw)
	return int(n.Mod(n, big.NewInt(int64(sum))).Int64())
}

func wantPick(weights []int, draw uint64) int {
	l := slots(weights)
	if len(l) == 0 {
		return -1
	}
	return l[remainder(draw, len(l))]
}

func checkPick(t *testing.T, weights []int, draw uint64, want int) {
	t.Helper()
	if at := pick.Pick(weights, draw); at != want {
		t.Errorf("Pick(%d, %d): %d, not %d", weights, draw, at, want)
	}
}

func checkSum(t *testing.T, weights []int, want int) {
	t.Helper()
	if sum := pick.Sum(weights); sum != want {
		t.Errorf("Sum(%d): %d, not %d", weights, sum, want)
	}
}

func checkRight(t *testing.T, weights []int, want bool) {
	t.Helper()
	if right := pick.Right(weights); right != want {
		t.Errorf("Right(%d): %v", weights, right)
	}
}

func checkOnly(t *testing.T, weights []int, may []bool, want ...int) {
	t.Helper()
	if l := pick.Only(weights, may); !slices.Equal(l, want) {
		t.Errorf("Only(%d, %v): %d, not %d", weights, may, l, want)
	}
}

// shortLists are all lists of up to so many numbers, each one of those that are named; the empty one comes as nil and as what isn't nil.
func shortLists[T any](many int, each ...T) [][]T {
	all := [][]T{nil, {}}
	last := [][]T{{}}
	for range many {
		var next [][]T
		for _, l := range last {
			for _, n := range each {
				next = append(next, append(slices.Clone(l), n))
			}
		}
		all = append(all, next...)
		last = next
	}
	return all
}

// drawnLists are so many lists that may be, of all lengths that may be, in which 0 and MostWeight are often.
func drawnLists(draws *rand.Rand, many int) [][]int {
	all := make([][]int, many)
	for i := range all {
		l := make([]int, draws.Intn(api.MostNodes+1))
		for place := range l {
			l[place] = []int{0, 1, api.MostWeight, draws.Intn(10), draws.Intn(api.MostWeight + 1)}[draws.Intn(5)]
		}
		all[i] = l
	}
	return all
}

// lists are weights that may be: all short ones of small numbers, the least and the greatest, and drawn ones.
func lists() [][]int {
	all := shortLists(api.MostNodes, 0, 1, 3)
	all = append(all, shortLists(3, 0, 1, 2, 99, 100)...)
	all = append(all, same(api.MostNodes, api.MostWeight))
	return append(all, drawnLists(rand.New(rand.NewSource(11)), 300)...)
}

// odd are numbers that lie at the borders of what may be, and far from it.
func odd() []int {
	return []int{0, 1, 50, api.MostWeight - 1, api.MostWeight, api.MostWeight + 1, 2 * api.MostWeight, -1, -api.MostWeight, 127, 128, 255, 256, 257, 1 << 16, 1 << 31, 1 << 32, 1<<32 + 1, 1<<32 + 100, -1 << 31, -1 << 32, 1<<32 - 1, math.MaxInt - 1, math.MaxInt, math.MinInt, math.MinInt + 1}
}

// oddDraws are draws at the borders of the kinds of numbers.
func oddDraws() []uint64 {
	return []uint64{0, 1, 2, 3, 7, 99, 100, 599, 600, 601, math.MaxInt32, 1 << 31, math.MaxUint32, 1 << 32, 1<<32 + 1, 1<<53 + 1, 1<<63 - 2, 1<<63 - 1, 1 << 63, 1<<63 + 1, 1<<64 - 600, 1<<64 - 599, 1<<64 - 3, 1<<64 - 2, 1<<64 - 1}
}

// The document's example.
func TestExample(t *testing.T) {
	checkPick(t, []int{2, 0, 3}, 7, 2)
}

// P11.1: there may be none, and up to MostNodes.
func TestRightByCount(t *testing.T) {
	checkRight(t, nil, true)
	for _, weight := range []int{0, 1, 7, api.MostWeight} {
		for count := range 20 {
			checkRight(t, same(count, weight), count <= 6)
		}
		for _, count := range []int{128, 255, 256, 257, 262, 65536, 65542} {
			checkRight(t, same(count, weight), false)
		}
	}
}

// P11.1: at each place a weight is from 0 to MostWeight.
func TestRightAtEachPlace(t *testing.T) {
	for count := 1; count <= api.MostNodes+1; count++ {
		for place := range count {
			for _, weight := range odd() {
				for _, others := range []int{0, 1, api.MostWeight} {
					l := same(count, others)
					l[place] = weight
					checkRight(t, l, count <= 6 && weight >= 0 && weight <= 100)
				}
			}
		}
	}
}

// P11.1: one that may be doesn't make up for one that may not, nor do two that may not for each other.
func TestRightOfSeveral(t *testing.T) {
	for _, l := range shortLists(3, odd()...) {
		want := true
		for _, weight := range l {
			if weight < 0 || weight > 100 {
				want = false
			}
		}
		checkRight(t, l, want)
	}
	for _, l := range lists() {
		checkRight(t, l, true)
	}
}

// P11.1: Sum of none, of weights of 0, of one, and of the most and greatest.
func TestSum(t *testing.T) {
	checkSum(t, nil, 0)
	checkSum(t, []int{}, 0)
	for count := range api.MostNodes + 1 {
		checkSum(t, same(count, 0), 0)
		checkSum(t, same(count, 1), count)
		checkSum(t, same(count, api.MostWeight), 100*count)
	}
	for weight := range api.MostWeight + 1 {
		checkSum(t, []int{weight}, weight)
		for place := range api.MostNodes {
			l := same(api.MostNodes, 0)
			l[place] = weight
			checkSum(t, l, weight)
		}
	}
	checkSum(t, []int{1, 2, 4, 8, 16, 32}, 63)
	checkSum(t, []int{100, 0, 27}, 127)
	checkSum(t, []int{100, 28}, 128)
	checkSum(t, []int{100, 100, 56}, 256)
	for _, l := range lists() {
		checkSum(t, l, len(slots(l)))
	}
}

// P11.1: Only with as many truths as weights, with fewer, with more, and with none of either.
func TestOnly(t *testing.T) {
	checkOnly(t, nil, nil)
	checkOnly(t, []int{}, []bool{})
	checkOnly(t, nil, []bool{true, false, true})
	checkOnly(t, []int{4, 5, 6}, nil, 0, 0, 0)
	checkOnly(t, []int{4, 5, 6}, []bool{}, 0, 0, 0)
	checkOnly(t, []int{4, 5, 6}, []bool{true}, 4, 0, 0)
	checkOnly(t, []int{4, 5, 6}, []bool{false, true}, 0, 5, 0)
	checkOnly(t, []int{4, 5, 6}, []bool{true, false, true}, 4, 0, 6)
	checkOnly(t, []int{4, 5, 6}, []bool{false, false, false}, 0, 0, 0)
	checkOnly(t, []int{4, 5, 6}, []bool{true, true, true}, 4, 5, 6)
	checkOnly(t, []int{4, 5, 6}, []bool{false, true, true, true, false, true, true}, 0, 5, 6)
	checkOnly(t, []int{0, 100, 0}, []bool{true, true, false, true}, 0, 100, 0)
}

// P11.1: Only of weights of each count, with all truths of each count up to some more than that.
func TestOnlyOfAll(t *testing.T) {
	weights := []int{3, 0, 100, 7, 1, 50}
	for _, may := range shortLists(api.MostNodes+2, false, true) {
		for count := range len(weights) + 1 {
			want := slices.Clone(weights[:count])
			for place := range want {
				if place >= len(may) || !may[place] {
					want[place] = 0
				}
			}
			checkOnly(t, weights[:count], may, want...)
		}
	}
}

// P11.1: what Only answers of weights that may be may be, and sums up to those of whom it is true.
func TestOnlyIsRight(t *testing.T) {
	draws := rand.New(rand.NewSource(111))
	for _, l := range lists() {
		may := make([]bool, draws.Intn(api.MostNodes+3))
		sum := 0
		for place := range may {
			may[place] = draws.Intn(2) == 0
			if place < len(l) && may[place] {
				sum += l[place]
			}
		}
		only := pick.Only(l, may)
		checkRight(t, only, true)
		checkSum(t, only, sum)
		if len(only) != len(l) {
			t.Errorf("Only(%d, %v): %d", l, may, only)
		}
	}
}

// P11.2: nobody is picked of no weights, nor of weights of 0 alone.
func TestPickNobody(t *testing.T) {
	for _, draw := range oddDraws() {
		checkPick(t, nil, draw, -1)
		for count := range api.MostNodes + 1 {
			checkPick(t, same(count, 0), draw, -1)
		}
	}
}

// P11.2, P11.3: whoever alone weighs something is picked by any draw, wherever it stands.
func TestPickOfOne(t *testing.T) {
	for count := 1; count <= api.MostNodes; count++ {
		for place := range count {
			for _, weight := range []int{1, 2, 3, api.MostWeight - 1, api.MostWeight} {
				l := same(count, 0)
				l[place] = weight
				for _, draw := range oddDraws() {
					checkPick(t, l, draw, place)
				}
			}
		}
	}
}

// P11.2: weights of 0 ahead, between and behind are passed over, by the draws about each border.
func TestPickBorders(t *testing.T) {
	for _, x := range []struct {
		weights []int
		places  []int // of the draws 0, 1 and so on
	}{
		{[]int{1}, []int{0, 0, 0}},
		{[]int{2}, []int{0, 0, 0, 0}},
		{[]int{1, 1}, []int{0, 1, 0, 1}},
		{[]int{1, 2, 3}, []int{0, 1, 1, 2, 2, 2, 0, 1, 1, 2, 2, 2, 0}},
		{[]int{3, 2, 1}, []int{0, 0, 0, 1, 1, 2, 0, 0, 0, 1, 1, 2, 0}},
		{[]int{2, 0, 3}, []int{0, 0, 2, 2, 2, 0, 0, 2, 2, 2, 0}},
		{[]int{0, 2, 3}, []int{1, 1, 2, 2, 2, 1, 1, 2, 2, 2, 1}},
		{[]int{2, 3, 0}, []int{0, 0, 1, 1, 1, 0, 0, 1, 1, 1, 0}},
		{[]int{0, 0, 1, 0, 0, 1}, []int{2, 5, 2, 5}},
		{[]int{0, 1, 0, 2, 0, 0}, []int{1, 3, 3, 1, 3, 3, 1}},
		{[]int{1, 1, 1, 1, 1, 1}, []int{0, 1, 2, 3, 4, 5, 0, 1, 2, 3, 4, 5, 0}},
	} {
		for draw, place := range x.places {
			checkPick(t, x.weights, uint64(draw), place)
		}
	}
	for _, x := range []struct {
		draw  uint64
		place int
	}{{0, 0}, {99, 0}, {100, 1}, {199, 1}, {200, 2}, {299, 2}, {300, 3}, {399, 3}, {400, 4}, {499, 4}, {500, 5}, {599, 5}, {600, 0}, {699, 0}, {700, 1}, {6_000_000_000_599, 5}, {6_000_000_000_600, 0}} {
		checkPick(t, same(api.MostNodes, api.MostWeight), x.draw, x.place)
	}
}

// P11.2: just below, at and behind each border, in the first round, in later ones, and in those far off.
func TestPickBordersOfAll(t *testing.T) {
	for _, l := range lists() {
		sum, ahead := uint64(len(slots(l))), uint64(0)
		for _, weight := range append([]int{0}, l...) {
			ahead += uint64(weight)
			for _, rounds := range []uint64{0, 1, 2, 1000, 1 << 32, 1 << 53} {
				for _, draw := range []uint64{ahead - 1, ahead, ahead + 1} {
					if sum == 0 || ahead == 0 && draw == math.MaxUint64 {
						continue
					}
					checkPick(t, l, rounds*sum+draw, slots(l)[draw%sum])
				}
			}
		}
	}
}

// P11.2: the greatest draws, whose remainders can be read off their last digits, or by the sum of all: as numbers with a sign, or of 32 bits, they have others.
func TestPickGreatDraws(t *testing.T) {
	for _, x := range []struct {
		weights []int
		draw    uint64
		place   int
	}{
		{[]int{14, 1, 1, 84}, 18446744073709551615, 2},
		{[]int{15, 1, 84}, 18446744073709551615, 1},
		{[]int{15, 1, 100, 84, 100, 100}, 18446744073709551615, 1},
		{[]int{100, 15, 100, 100, 85, 100}, 18446744073709551615, 2},
		{[]int{100, 15, 100, 100, 85, 100}, 18446744073709551614, 1},
		{[]int{8, 0, 1, 91}, 9223372036854775808, 2},
		{[]int{100, 100, 8, 1, 91, 100}, 9223372036854775808, 3},
		{[]int{7, 1, 92}, 9223372036854775807, 1},
		{[]int{95, 1, 4}, 4294967296, 2},
		{[]int{96, 1, 3}, 4294967296, 1},
		{[]int{1, 1, 1}, 18446744073709551615, 0},
		{[]int{1, 1, 1}, 18446744073709551614, 2},
		{[]int{1, 1, 1}, 9223372036854775808, 2},
		{[]int{1, 1, 1}, 9223372036854775807, 1},
		{[]int{1, 1, 1}, 4294967296, 1},
		{[]int{1, 1, 1}, 2147483648, 2},
	} {
		checkPick(t, x.weights, x.draw, x.place)
	}
	for _, l := range lists() {
		for _, draw := range oddDraws() {
			checkPick(t, l, draw, wantPick(l, draw))
		}
	}
}

// P11.2: drawn draws of drawn weights.
func TestPickDrawn(t *testing.T) {
	draws := rand.New(rand.NewSource(112))
	for _, l := range drawnLists(draws, 3000) {
		for range 10 {
			draw := draws.Uint64() >> draws.Intn(64)
			checkPick(t, l, draw, wantPick(l, draw))
		}
	}
}

// P11.3: in all draws of one round, wherever it begins, each place is picked as often as it weighs; who weighs nothing never is.
func TestRound(t *testing.T) {
	for _, l := range lists() {
		sum := uint64(len(slots(l)))
		begins := []uint64{0, 1, 2, 7, 12345, 1<<31 - 3, 1<<32 - 3, 1<<63 - 3, math.MaxUint64 - sum}
		if sum != 0 {
			begins = append(begins, sum-1, sum, sum/2, 77*sum, math.MaxUint64-sum+1) // the last one ends with the greatest draw
		}
		for _, begin := range begins {
			times := make([]int, len(l))
			for n := range sum {
				at := pick.Pick(l, begin+n)
				if at < 0 || at >= len(l) {
					t.Fatalf("Pick(%d, %d): %d", l, begin+n, at)
				}
				times[at]++
			}
			if !slices.Equal(times, l) {
				t.Fatalf("weights %d, draws from %d on: %d times", l, begin, times)
			}
		}
	}
}

// P11.3: who may not be, by Only, is never picked either, and of the others each as often as it weighs.
func TestRoundOfOnly(t *testing.T) {
	l := []int{3, 0, 20, 7, 1, 5}
	for _, may := range shortLists(len(l)+1, false, true) {
		only := pick.Only(l, may)
		times := make([]int, len(l))
		for n := range pick.Sum(only) {
			times[pick.Pick(only, uint64(n))]++
		}
		for place, weight := range l {
			if place >= len(may) || !may[place] {
				weight = 0
			}
			if times[place] != weight {
				t.Errorf("Only %v: %d times", may, times)
			}
		}
	}
}

// R1: of weights that may not be nothing is promised but that the calls end; Only tells them as they are.
func TestWrongWeights(t *testing.T) {
	wrong := shortLists(3, odd()...)
	wrong = append(wrong, same(7, 100), same(1000, 100), same(1<<20, math.MaxInt), same(1<<20, math.MinInt), []int{math.MaxInt, 1, math.MaxInt, 2})
	for _, l := range wrong {
		pick.Right(l)
		pick.Sum(l)
		for _, draw := range []uint64{0, 1, 99, 1 << 63, math.MaxUint64} {
			pick.Pick(l, draw)
		}
		if len(l) != 0 {
			if only := pick.Only(l, same(len(l), true)); !slices.Equal(only, l) {
				t.Errorf("Only of %d wrong ones", len(l))
			}
		}
	}
}

// R3: what is handed over stays as it was, and what lies behind it; what is answered is apart from it.
func TestArgumentsStay(t *testing.T) {
	for _, all := range lists() {
		for count := range len(all) + 1 {
			l := slices.Clone(all)
			may := []bool{true, false, true, true, false, true, true, false}
			part, truths := l[:count], may[:len(l)+2]
			pick.Right(part)
			pick.Sum(part)
			pick.Pick(part, 5)
			only := pick.Only(part, truths)
			for i := range only[:cap(only)] {
				only[:cap(only)][i] = -9
			}
			_ = append(only, -8, -7)
			if !slices.Equal(l, all) || !slices.Equal(may, []bool{true, false, true, true, false, true, true, false}) {
				t.Fatalf("%d, that was %d; %v", l, all, may)
			}
		}
	}
}

// R3: what Only answered stays as it was when what was handed over changes, and when Only answers again.
func TestOnlyIsApart(t *testing.T) {
	l, may := []int{1, 2, 3, 4}, []bool{true, true, false, true}
	first := pick.Only(l, may)
	second := pick.Only(l, may)
	l[0], l[3], may[1] = 50, 60, false
	second[1] = 70
	if !slices.Equal(first, []int{1, 2, 0, 4}) || !slices.Equal(second, []int{1, 70, 0, 4}) {
		t.Errorf("%d, %d", first, second)
	}
	checkOnly(t, l, may, 50, 0, 0, 60)
}

// R4, R5, R6: the same calls answer the same, whatever was asked ahead of them; an empty list and none are one.
func TestTheSameAgain(t *testing.T) {
	l, may := []int{2, 0, 3}, []bool{true, true, false}
	for _, other := range append(drawnLists(rand.New(rand.NewSource(113)), 500), nil, []int{}, []int{-1}, []int{math.MaxInt, math.MaxInt}) {
		pick.Right(other)
		pick.Sum(other)
		pick.Pick(other, math.MaxUint64)
		pick.Only(other, []bool{true})
		checkRight(t, l, true)
		checkSum(t, l, 5)
		checkPick(t, l, 4, 2)
		checkPick(t, l, 6, 0)
		checkOnly(t, l, may, 2, 0, 0)
	}
	for _, empty := range [][]int{nil, {}, l[:0]} {
		checkRight(t, empty, true)
		checkSum(t, empty, 0)
		checkPick(t, empty, 0, -1)
		checkOnly(t, empty, may)
		checkOnly(t, l, may[:0], 0, 0, 0)
	}
}
