package view_test

import (
	"fmt"
	"math"
	"math/rand"
	"slices"
	"strings"
	"testing"

	"signalman/api"
	"signalman/view"
)

const most = math.MaxUint64

func tok(epoch, place uint64) view.Token { return view.Token{Epoch: epoch, Place: place} }

// promotion is what a Learn is told.
type promotion struct {
	epoch   uint64
	primary int
	cut     uint64
}

// readPromotions reads promotions that are written short: "2:5 4:3" begin the epochs 2 and 4, and cut at 5 and at 3. Their primaries go round the nodes.
func readPromotions(text string) []promotion {
	var l []promotion
	for i, field := range strings.Fields(text) {
		p := promotion{primary: (i + 1) % api.MostNodes}
		if n, err := fmt.Sscanf(field, "%d:%d", &p.epoch, &p.cut); n != 2 || err != nil {
			panic(field)
		}
		l = append(l, p)
	}
	return l
}

// learned is a new view that learned these, all of which are later than what it has.
func learned(t *testing.T, text string) *view.View {
	t.Helper()
	v := view.New(0)
	for _, p := range readPromotions(text) {
		checkLearn(t, v, p.epoch, p.primary, p.cut, true)
	}
	return v
}

// checkLearn holds what a Learn answers, and the epoch and the primary behind it; where it is told no, they are as they were.
func checkLearn(t *testing.T, v *view.View, epoch uint64, primary int, cut uint64, want bool) {
	t.Helper()
	wantEpoch, wantPrimary := v.Epoch(), v.Primary()
	if want {
		wantEpoch, wantPrimary = epoch, primary
	}
	if is := v.Learn(epoch, primary, cut); is != want {
		t.Errorf("Learn(%d, %d, %d): %v", epoch, primary, cut, is)
	}
	checkLook(t, v, wantEpoch, wantPrimary)
}

// checkLook asks twice, as to ask changes nothing.
func checkLook(t *testing.T, v *view.View, epoch uint64, primary int) {
	t.Helper()
	for range 2 {
		if v.Epoch() != epoch || v.Primary() != primary {
			t.Errorf("epoch %d, primary %d, not %d, %d", v.Epoch(), v.Primary(), epoch, primary)
		}
	}
}

// checkBring asks twice, as to ask changes nothing.
func checkBring(t *testing.T, v *view.View, of, want view.Token, is bool) {
	t.Helper()
	for range 2 {
		if left, whole := v.Bring(of); left != want || whole != is {
			t.Errorf("Bring of %v: %v, %v, not %v, %v", of, left, whole, want, is)
		}
	}
}

func checkCovers(t *testing.T, v *view.View, of view.Token, epoch, place uint64, want bool) {
	t.Helper()
	for range 2 {
		if is := v.Covers(of, epoch, place); is != want {
			t.Errorf("Covers of %v at %d, %d: %v", of, epoch, place, is)
		}
	}
}

// P14.1, P14.2: the document's example, and the names of what is told.
func TestView(t *testing.T) {
	v := view.New(3)
	checkLook(t, v, 1, 3)
	if !v.Learn(2, 4, 5) {
		t.Error("Learn of the next epoch")
	}
	checkLook(t, v, 2, 4)
	left, is := v.Bring(view.Token{Epoch: 1, Place: 7})
	if left != (view.Token{Epoch: 2, Place: 5}) || is {
		t.Errorf("Bring of 1, 7: %v, %v", left, is)
	}
}

// primaries are those of which P14.1 speaks: a view takes any, as it only tells it.
func primaries() []int {
	return []int{0, 1, 5, api.MostNodes - 1, api.MostNodes, api.MostNodes + 1, -1, -2, 255, 256, 1 << 31, 1<<31 - 1, -1 << 31, 1 << 32, -1 << 32, 1<<32 + 1, math.MaxInt, math.MaxInt - 1, math.MinInt, math.MinInt + 1}
}

// numbers are places and epochs at the edges of all widths.
func numbers() []uint64 {
	return []uint64{0, 1, 2, 3, 127, 128, 255, 256, 257, 1<<16 - 1, 1 << 16, 1<<31 - 1, 1 << 31, 1<<32 - 1, 1 << 32, 1<<32 + 1, 1<<53 + 1, 1<<63 - 1, 1 << 63, 1<<63 + 1, most - 1, most}
}

// P14.1, P14.2: a new view is of the epoch 1, has its primary, and lost nothing.
func TestNew(t *testing.T) {
	for _, primary := range primaries() {
		v := view.New(primary)
		checkLook(t, v, 1, primary)
		for _, place := range numbers() {
			checkBring(t, v, tok(0, place), tok(1, place), true)
			checkCovers(t, v, tok(0, place), 1, place, true)
			checkCovers(t, v, tok(0, place), 0, place, false)
			for _, epoch := range numbers()[1:] {
				checkBring(t, v, tok(epoch, place), tok(epoch, place), true)
				checkCovers(t, v, tok(epoch, place), epoch, place, true)
			}
		}
		checkLook(t, v, 1, primary)
	}
}

// P14.1: Learn of each epoch that is later is told yes, of each other one no, whatever its primary and its cut.
func TestLearn(t *testing.T) {
	for _, at := range numbers()[2:] {
		for _, next := range append(numbers(), at-1, at, at+1, at+2, at/2) {
			for _, primary := range primaries() {
				for _, cut := range []uint64{0, 7, at, most} {
					v := view.New(2)
					checkLearn(t, v, at, 1, 9, true)
					checkLearn(t, v, next, primary, cut, next > at)
				}
			}
		}
	}
	for _, primary := range primaries() { // of a new view
		checkLearn(t, view.New(2), 0, primary, 0, false)
		checkLearn(t, view.New(2), 1, primary, 0, false)
		checkLearn(t, view.New(2), 2, primary, 0, true)
		checkLearn(t, view.New(2), 3, primary, 0, true)
		checkLearn(t, view.New(2), most, primary, 0, true)
	}
}

// P14.1: behind the greatest epoch there is none.
func TestLastEpoch(t *testing.T) {
	v := view.New(1)
	checkLearn(t, v, most-1, 2, 8, true)
	checkLearn(t, v, most, 3, 6, true)
	for _, n := range numbers() {
		checkLearn(t, v, n, 4, 0, false)
	}
	checkBring(t, v, tok(most, 9), tok(most, 9), true)
	checkBring(t, v, tok(most-1, 7), tok(most, 6), false)
	checkBring(t, v, tok(most-1, 6), tok(most, 6), true)
	checkBring(t, v, tok(most-2, 9), tok(most, 6), false)
}

// P14.1, R2: a Learn that is told no leaves epoch, primary and what is lost as they were.
func TestLearnNo(t *testing.T) {
	for _, text := range []string{"", "2:5", "2:5 3:8", "2:8 3:5", "2:5 7:5", "4:9 6:2 9:7"} {
		v, w := learned(t, text), learned(t, text)
		for _, no := range []uint64{0, 1, 2, 3, 4, 5, 6, 7, 8, 9} {
			for _, cut := range []uint64{0, 1, 4, 6, most} {
				if no <= v.Epoch() {
					checkLearn(t, v, no, 5, cut, false)
				}
			}
		}
		checkSame(t, v, w)
		checkLearn(t, v, 20, 4, 6, true)
		checkLearn(t, v, 19, 3, 0, false)
		checkLearn(t, v, 20, 3, 0, false)
		checkLearn(t, w, 20, 4, 6, true)
		checkSame(t, v, w)
	}
}

// checkSame: two views tell the same of all that is small.
func checkSame(t *testing.T, v, w *view.View) {
	t.Helper()
	checkLook(t, v, w.Epoch(), w.Primary())
	for epoch := range uint64(12) {
		for place := range uint64(12) {
			want, is := w.Bring(tok(epoch, place))
			checkBring(t, v, tok(epoch, place), want, is)
		}
	}
}

// P14.2: a token of the view's epoch, or of a later one, stays, at whatever place.
func TestBringStays(t *testing.T) {
	for _, text := range []string{"2:5", "2:0", "5:3 8:2", "2:0 3:0", "1000:7"} {
		v := learned(t, text)
		for _, place := range numbers() {
			for _, more := range []uint64{0, 1, 2, 900, 1 << 32} {
				of := tok(v.Epoch()+more, place)
				checkBring(t, v, of, of, true)
			}
			checkBring(t, v, tok(most, place), tok(most, place), true)
		}
	}
}

// P14.2: of an earlier one what is left is the least of its place and the cut: a place less than the cut, the same, one more, 0, and the greatest.
func TestBringOfOneCut(t *testing.T) {
	for _, cut := range append(numbers(), 10) {
		v := view.New(0)
		checkLearn(t, v, 4, 1, cut, true)
		for epoch := range uint64(4) {
			for _, place := range append(numbers(), cut-1, cut, cut+1, cut/2) {
				checkBring(t, v, tok(epoch, place), tok(4, min(place, cut)), place <= cut)
			}
		}
	}
}

// P14.2: several promotions, whose epochs rise by one and by more, and whose cuts rise, fall, and are the same: only those to epochs later than the token's cut it.
func TestPromotions(t *testing.T) {
	for _, c := range []struct{ text, least string }{
		// least: what each epoch's tokens, from 0 on, are cut at.
		{"2:3 3:5 4:7", "3 3 5 7"},
		{"2:7 3:5 4:3", "3 3 3 3"},
		{"2:5 3:5 4:5", "5 5 5 5"},
		{"2:3 3:7 4:5", "3 3 5 5"},
		{"2:5 3:3 4:7", "3 3 3 7"},
		{"2:5 3:7 4:3", "3 3 3 3"},
		{"2:7 3:3 4:5", "3 3 3 5"},
		{"2:0 3:4 4:4", "0 0 4 4"},
		{"2:4 3:4 4:9 5:4", "4 4 4 4 4"},
		{"2:4 3:0 4:9", "0 0 0 9"},
		{"3:2 6:8", "2 2 2 8 8 8"},
		{"3:8 6:2", "2 2 2 2 2 2"},
		{"2:1 5:9 6:6 9:8 10:9", "1 1 6 6 6 6 8 8 8 9"},
		{"2:1 3:2 4:3 5:4 6:2 7:9", "1 1 2 2 2 2 9"},
		{"4:18446744073709551615", "18446744073709551615 18446744073709551615 18446744073709551615 18446744073709551615"},
	} {
		v := learned(t, c.text)
		for epoch, field := range strings.Fields(c.least) {
			var least uint64
			fmt.Sscan(field, &least)
			for _, place := range []uint64{0, 1, least - 1, least, least + 1, 12, most} {
				checkBring(t, v, tok(uint64(epoch), place), tok(v.Epoch(), min(place, least)), place <= least)
			}
		}
		end := uint64(len(strings.Fields(c.least)))
		checkLook(t, v, end, v.Primary())
		checkBring(t, v, tok(end, most), tok(end, most), true)
	}
}

// P14.2: tokens of epoch 0, of an epoch between two that were learned, and of a learned one itself.
func TestBringBetween(t *testing.T) {
	v := learned(t, "5:10 10:20 15:15")
	for _, c := range []struct{ epoch, least uint64 }{{0, 10}, {1, 10}, {4, 10}, {5, 15}, {6, 15}, {9, 15}, {10, 15}, {11, 15}, {14, 15}} {
		for _, place := range []uint64{0, 9, 10, 11, 14, 15, 16, 19, 20, 21, most} {
			checkBring(t, v, tok(c.epoch, place), tok(15, min(place, c.least)), place <= c.least)
		}
	}
	for _, place := range []uint64{0, 10, 15, 16, 20, 21, most} {
		checkBring(t, v, tok(15, place), tok(15, place), true)
		checkBring(t, v, tok(16, place), tok(16, place), true)
	}
}

// P14.2: a token that is ahead of its view's epoch is cut by what is promoted behind its own, once the view learns that, and by nothing up to there.
func TestBringOfLater(t *testing.T) {
	v := learned(t, "2:5")
	of := tok(6, 30)
	checkBring(t, v, of, of, true)
	checkLearn(t, v, 4, 1, 0, true)
	checkBring(t, v, of, of, true)
	checkLearn(t, v, 6, 1, 1, true)
	checkBring(t, v, of, of, true)
	checkLearn(t, v, 7, 1, 30, true)
	checkBring(t, v, of, tok(7, 30), true)
	checkLearn(t, v, 9, 1, 29, true)
	checkBring(t, v, of, tok(9, 29), false)
	checkBring(t, v, tok(7, 29), tok(9, 29), true)
	checkBring(t, v, tok(5, 2), tok(9, 1), false)
}

// P14.2: Covers of one that isn't lost: with the epoch of the view, of the token, and of neither; with the place that it was brought up to, one less, and one more.
func TestCovers(t *testing.T) {
	v := learned(t, "3:8 7:5")
	for _, c := range []struct{ of, up view.Token }{
		{tok(1, 5), tok(7, 5)}, {tok(0, 1), tok(7, 1)}, {tok(3, 5), tok(7, 5)}, {tok(5, 2), tok(7, 2)}, {tok(6, 0), tok(7, 0)},
		{tok(7, 9), tok(7, 9)}, {tok(7, 0), tok(7, 0)}, {tok(7, most), tok(7, most)},
		{tok(9, 1), tok(9, 1)}, {tok(most, most), tok(most, most)}, {tok(8, 0), tok(8, 0)},
	} {
		for _, epoch := range []uint64{0, 1, 2, 3, 4, 5, 6, 7, 8, 9, 10, 1<<32 + 7, most - 1, most} {
			for _, place := range []uint64{0, 1, c.up.Place - 1, c.up.Place, c.up.Place + 1, 100, most} {
				checkCovers(t, v, c.of, epoch, place, epoch == c.up.Epoch && place >= c.up.Place)
			}
		}
	}
	checkLook(t, v, 7, 2)
}

// P14.2: Covers of one that is lost is told no, whatever the epoch and the place.
func TestCoversLost(t *testing.T) {
	v := learned(t, "3:8 7:5")
	for _, of := range []view.Token{tok(1, 6), tok(0, 9), tok(2, most), tok(3, 6), tok(6, 6), tok(6, 8)} {
		for _, epoch := range append(numbers(), 4, 5, 6, 7, 8) {
			for _, place := range append(numbers(), 4, 5, 6, 7, 8, 9, 10) {
				checkCovers(t, v, of, epoch, place, false)
			}
		}
	}
}

// P14.2: Later of two, either way round: by their epochs, of one epoch by their places.
func TestLater(t *testing.T) {
	var rising []view.Token // each is later than all ahead of it; numbers rise
	for _, epoch := range numbers() {
		for _, place := range numbers() {
			rising = append(rising, tok(epoch, place))
		}
	}
	for i, a := range rising {
		for j, b := range rising {
			if is := view.Later(a, b); is != rising[max(i, j)] {
				t.Errorf("Later of %v, %v: %v", a, b, is)
			}
		}
	}
	for _, c := range []struct{ a, b, want view.Token }{ // places rise where epochs fall
		{tok(1, 9), tok(2, 0), tok(2, 0)}, {tok(2, 0), tok(1, 9), tok(2, 0)}, {tok(3, 4), tok(3, 5), tok(3, 5)}, {tok(3, 5), tok(3, 4), tok(3, 5)}, {tok(3, 4), tok(3, 4), tok(3, 4)}, {tok(0, 0), tok(0, 0), tok(0, 0)}, {tok(0, most), tok(most, 0), tok(most, 0)},
	} {
		if is := view.Later(c.a, c.b); is != c.want {
			t.Errorf("Later of %v, %v: %v", c.a, c.b, is)
		}
	}
}

// smallEpoch and smallPlace are one more than the greatest of the small tokens.
const smallEpoch, smallPlace = 7, 5

// smallTokens are all tokens of a few epochs and places.
func smallTokens() []view.Token {
	var l []view.Token
	for epoch := range uint64(smallEpoch) {
		for place := range uint64(smallPlace) {
			l = append(l, tok(epoch, place))
		}
	}
	return l
}

// eachHistory calls with all lists of up to a length of promotions whose epochs rise from 2 on, and whose cuts are small.
func eachHistory(length int, call func([]promotion)) {
	var grow func([]promotion)
	grow = func(l []promotion) {
		call(l)
		if len(l) == length {
			return
		}
		from := uint64(2)
		if len(l) > 0 {
			from = l[len(l)-1].epoch + 1
		}
		for epoch := from; epoch < smallEpoch; epoch++ {
			for cut := range uint64(smallPlace) {
				grow(append(l[:len(l):len(l)], promotion{epoch, int(epoch) % api.MostNodes, cut}))
			}
		}
	}
	grow(nil)
}

// model tells a view in another way: by each write that is behind a token, by its number from 1 on, and whether all promotions behind its epoch took it over.
type model struct {
	epoch   uint64
	primary int
	all     []promotion
}

func (m *model) learn(p promotion) bool {
	if p.epoch <= m.epoch {
		return false
	}
	m.epoch, m.primary = p.epoch, p.primary
	m.all = append(m.all, p)
	return true
}

func (m *model) takenOver(epoch, write uint64) bool {
	for _, p := range m.all {
		if p.epoch > epoch && write > p.cut {
			return false
		}
	}
	return true
}

func (m *model) bring(t view.Token) (view.Token, bool) {
	is := true
	left := tok(max(t.Epoch, m.epoch), 0)
	for write := uint64(1); write <= t.Place; write++ {
		if t.Epoch >= m.epoch || m.takenOver(t.Epoch, write) {
			left.Place++
		} else {
			is = false
		}
	}
	return left, is
}

func (m *model) covers(t view.Token, epoch, place uint64) bool {
	left, is := m.bring(t)
	if !is || left.Epoch != epoch {
		return false
	}
	for ; place > left.Place; place-- { // what the log has beyond is no matter
	}
	return place == left.Place
}

// P14.1, P14.2: all short lists of Learns, in any order of their epochs, with all small tokens between, against the model.
func TestAllShort(t *testing.T) {
	var grow func(made []promotion)
	grow = func(made []promotion) {
		v, m := view.New(3), &model{epoch: 1, primary: 3}
		for _, p := range made {
			if is, want := v.Learn(p.epoch, p.primary, p.cut), m.learn(p); is != want {
				t.Fatalf("%v: Learn of %v: %v", made, p, is)
			}
		}
		if v.Epoch() != m.epoch || v.Primary() != m.primary {
			t.Fatalf("%v: epoch %d, primary %d", made, v.Epoch(), v.Primary())
		}
		for epoch := range uint64(6) {
			for place := range uint64(5) {
				left, is := v.Bring(tok(epoch, place))
				want, whole := m.bring(tok(epoch, place))
				if left != want || is != whole {
					t.Fatalf("%v: Bring of %d, %d: %v, %v, not %v, %v", made, epoch, place, left, is, want, whole)
				}
			}
		}
		if len(made) == 3 {
			return
		}
		for epoch := uint64(1); epoch < 6; epoch++ {
			for cut := range uint64(4) {
				grow(append(made[:len(made):len(made)], promotion{epoch, len(made), cut}))
			}
		}
	}
	grow(nil)
}

// P14.2: Covers of all small tokens at all small places, behind all short histories, against the model.
func TestCoversAllShort(t *testing.T) {
	eachHistory(2, func(l []promotion) {
		v, m := view.New(0), &model{epoch: 1}
		for _, p := range l {
			v.Learn(p.epoch, p.primary, p.cut)
			m.learn(p)
		}
		for _, of := range smallTokens() {
			for _, at := range smallTokens() {
				if is := v.Covers(of, at.Epoch, at.Place); is != m.covers(of, at.Epoch, at.Place) {
					t.Fatalf("%v: Covers of %v at %v: %v", l, of, at, is)
				}
			}
		}
	})
}

// drawn draws numbers that are often the same, or next to each other, small, or great.
func drawn(r *rand.Rand) uint64 {
	switch r.Intn(8) {
	case 0:
		return r.Uint64()
	case 1:
		return most - uint64(r.Intn(3))
	case 2:
		return 1<<32 + uint64(r.Intn(5)) - 2
	}
	return uint64(r.Intn(12))
}

// sorted is a model for great numbers: of cuts and place the least is the first, once they are sorted.
func sorted(all []promotion, epoch uint64, t view.Token) (view.Token, bool) {
	if t.Epoch >= epoch {
		return t, true
	}
	l := []uint64{t.Place}
	for _, p := range all {
		if p.epoch > t.Epoch {
			l = append(l, p.cut)
		}
	}
	slices.Sort(l)
	return tok(epoch, l[0]), l[0] == t.Place
}

// P14.1, P14.2, R4: many acts that are drawn, Learn, Bring and Covers between one another, of great and small numbers, against a model; and a second view that is asked the same answers the same.
func TestDrawn(t *testing.T) {
	r := rand.New(rand.NewSource(14))
	for range 600 {
		first := r.Intn(9) - 1
		v, w := view.New(first), view.New(first)
		epoch, primary := uint64(1), first
		var all []promotion
		for range 120 {
			switch r.Intn(5) {
			case 0:
				p := promotion{epoch + uint64(r.Intn(4)) - 1, r.Intn(9) - 1, drawn(r)}
				if r.Intn(6) == 0 {
					p.epoch = uint64(r.Intn(40))
				}
				is := p.epoch > epoch
				if is {
					epoch, primary = p.epoch, p.primary
					all = append(all, p)
				}
				checkLearn(t, v, p.epoch, p.primary, p.cut, is)
				checkLearn(t, w, p.epoch, p.primary, p.cut, is)
			case 1, 2:
				of := tok(uint64(r.Intn(int(epoch)+2)), drawn(r))
				want, is := sorted(all, epoch, of)
				checkBring(t, v, of, want, is)
				checkBring(t, w, of, want, is)
			default:
				of := tok(uint64(r.Intn(int(epoch)+2)), drawn(r))
				left, is := sorted(all, epoch, of)
				at := tok(left.Epoch+uint64(r.Intn(9)/8), left.Place+uint64(r.Intn(3))-1)
				checkCovers(t, v, of, at.Epoch, at.Place, is && left.Epoch == at.Epoch && left.Place <= at.Place)
			}
		}
		checkLook(t, v, epoch, primary)
		checkLook(t, w, epoch, primary)
	}
}

// P14.3: what is brought up stays, brought up once more; so does what is left of one that is lost; and what is lost is lost each time.
func TestOnceMore(t *testing.T) {
	eachHistory(3, func(l []promotion) {
		v := view.New(0)
		for _, p := range l {
			v.Learn(p.epoch, p.primary, p.cut)
		}
		for _, of := range smallTokens() {
			left, is := v.Bring(of)
			again, whole := v.Bring(left)
			if again != left || !whole {
				t.Fatalf("%v: Bring of %v: %v, and of that: %v, %v", l, of, left, again, whole)
			}
			if _, still := v.Bring(of); still != is {
				t.Fatalf("%v: Bring of %v: %v, then %v", l, of, is, still)
			}
		}
	})
}

// P14.3: what is lost stays lost, whatever is promoted behind it; and a token that is brought up behind each promotion comes to the same as one that is brought up once, and is lost at some time just if that one is.
func TestOnceAtATime(t *testing.T) {
	eachHistory(4, func(l []promotion) {
		v := view.New(0)
		tokens := smallTokens()
		lost := make([]bool, len(tokens))
		step := slices.Clone(tokens)
		for at := range len(l) + 1 {
			if at > 0 {
				v.Learn(l[at-1].epoch, l[at-1].primary, l[at-1].cut)
			}
			for i, of := range tokens {
				once, is := v.Bring(of)
				next, whole := v.Bring(step[i])
				if is == (lost[i] || !whole) || next != once {
					t.Fatalf("%v, %d of them: Bring of %v: %v, %v; of %v: %v, %v", l, at, of, once, is, step[i], next, whole)
				}
				step[i], lost[i] = next, !is
			}
		}
	})
}

// P14.3: a place that every cut leaves is never lost; of two tokens of one epoch the later one is lost, if the other one is; and what is left never grows.
func TestLeft(t *testing.T) {
	eachHistory(3, func(l []promotion) {
		v := view.New(0)
		least := uint64(most)
		for _, p := range l {
			v.Learn(p.epoch, p.primary, p.cut)
			least = min(least, p.cut)
		}
		for _, a := range smallTokens() {
			left, is := v.Bring(a)
			if a.Place <= least && !is || left.Place > a.Place || is != (left.Place == a.Place) {
				t.Fatalf("%v: Bring of %v: %v, %v", l, a, left, is)
			}
			for place := range a.Place {
				b := tok(a.Epoch, place)
				if _, other := v.Bring(b); view.Later(a, b) != a || is && !other {
					t.Fatalf("%v: %v isn't lost, but %v is", l, a, b)
				}
			}
		}
	})
}

// P14.2, P14.3, R1: very many promotions, whose cuts rise, fall, are the same, and rise and fall.
func TestMany(t *testing.T) {
	const many = 3000
	for i, cut := range []func(n uint64) uint64{
		func(n uint64) uint64 { return n },
		func(n uint64) uint64 { return 2*many - n },
		func(n uint64) uint64 { return many },
		func(n uint64) uint64 { return n * 7919 % many },
	} {
		v := view.New(0)
		var all []promotion
		for n := uint64(2); n < many; n++ {
			p := promotion{n, int(n % 6), cut(n)}
			all = append(all, p)
			checkLearn(t, v, p.epoch, p.primary, p.cut, true)
		}
		for epoch := uint64(0); epoch < many+2; epoch += 13 {
			for _, place := range []uint64{0, epoch, many / 2, many, most} {
				want, is := sorted(all, many-1, tok(epoch, place))
				if left, whole := v.Bring(tok(epoch, place)); left != want || whole != is {
					t.Fatalf("case %d: Bring of %d, %d: %v, %v", i, epoch, place, left, whole)
				}
			}
		}
	}
}

// R5: two views side by side, each of which changes nothing of the other.
func TestSideBySide(t *testing.T) {
	v, w := view.New(1), view.New(4)
	checkLearn(t, v, 2, 2, 5, true)
	checkLook(t, w, 1, 4)
	checkBring(t, w, tok(0, 9), tok(1, 9), true)
	checkBring(t, w, tok(1, 9), tok(1, 9), true)
	checkLearn(t, w, 3, 5, 7, true)
	checkLook(t, v, 2, 2)
	checkBring(t, v, tok(1, 7), tok(2, 5), false)
	checkBring(t, v, tok(2, 9), tok(2, 9), true)
	checkBring(t, w, tok(1, 7), tok(3, 7), true)
	checkBring(t, w, tok(2, 9), tok(3, 7), false)
	checkLearn(t, v, 4, 0, 1, true)
	checkBring(t, w, tok(2, 6), tok(3, 6), true)
	checkCovers(t, w, tok(2, 6), 3, 6, true)
	checkCovers(t, v, tok(2, 6), 4, 6, false)
	checkLearn(t, w, 2, 0, 0, false)
	checkLook(t, v, 4, 0)
	checkLook(t, w, 3, 5)
	checkLook(t, view.New(6), 1, 6)
}

// R3, R5: a view that was asked, and whose answers were changed, tells what one that was asked nothing does.
func TestAnswersApart(t *testing.T) {
	v, w := learned(t, "2:5 4:3"), learned(t, "2:5 4:3")
	for _, of := range smallTokens() {
		left, _ := v.Bring(of)
		left.Epoch, left.Place = 9, 9
		v.Covers(of, 4, 3)
		later := view.Later(of, left)
		later.Place = 0
	}
	checkSame(t, v, w)
}
