package waits_test

import (
	"fmt"
	"math"
	"math/rand"
	"slices"
	"testing"

	"signalman/api"
	"signalman/waits"
)

func mustNew(t *testing.T, most int) *waits.Row {
	t.Helper()
	w, e := waits.New(most)
	if w == nil || e != api.OK {
		t.Fatalf("New(%d): %v, %d", most, w, e)
	}
	return w
}

func checkPut(t *testing.T, w *waits.Row, id int, want api.Errno) {
	t.Helper()
	if e := w.Put(id); e != want {
		t.Errorf("Put(%d): %d, not %d", id, e, want)
	}
}

func checkTake(t *testing.T, w *waits.Row, want int) {
	t.Helper()
	if id, is := w.Take(); id != want || !is {
		t.Errorf("Take: %d, %v, not %d", id, is, want)
	}
}

func checkDrop(t *testing.T, w *waits.Row, id int, want bool) {
	t.Helper()
	if is := w.Drop(id); is != want {
		t.Errorf("Drop(%d): %v", id, is)
	}
}

// checkRow: just these wait, in this order; each stands behind those ahead of it, and others don't wait.
func checkRow(t *testing.T, w *waits.Row, want ...int) {
	t.Helper()
	if l := w.All(); !slices.Equal(l, want) {
		t.Errorf("All: %d, not %d", l, want)
	}
	for ahead, id := range want {
		if at := w.At(id); at != ahead {
			t.Errorf("At(%d): %d, not %d, of %d", id, at, ahead, want)
		}
	}
	for _, id := range oddIds() {
		if at := w.At(id); at != slices.Index(want, id) {
			t.Errorf("At(%d): %d, of %d", id, at, want)
		}
	}
}

// checkEmpty: nobody waits, and no call finds anybody.
func checkEmpty(t *testing.T, w *waits.Row) {
	t.Helper()
	for range 2 {
		checkRow(t, w)
		if l := w.All(); len(l) != 0 {
			t.Errorf("All: %d", l)
		}
		if id, is := w.Take(); id != 0 || is {
			t.Errorf("Take: %d, %v, of an empty row", id, is)
		}
		for _, id := range oddIds() {
			checkDrop(t, w, id, false)
		}
	}
}

// checkFull: there is no room for any that doesn't wait, and to ask changes nothing.
func checkFull(t *testing.T, w *waits.Row) {
	t.Helper()
	l := w.All()
	for _, id := range append(oddIds(), l...) {
		want := api.ErrFull
		if slices.Contains(l, id) {
			want = api.ErrState
		}
		checkPut(t, w, id, want)
		checkRow(t, w, l...)
	}
}

// oddIds are numbers at both ends of int and about 0, and more of them than can wait.
func oddIds() []int {
	return []int{0, 1, -1, 2, -2, 11, 12, 13, -12, 77, 255, 256, 1 << 31, -1 << 31, 1 << 32, 1<<32 + 1, 1 << 62, math.MaxInt - 1, math.MaxInt, math.MinInt + 1, math.MinInt}
}

// filled is a row in which so many wait, whose first one stands so far along the ring.
func filled(t *testing.T, most, turn int, ids ...int) *waits.Row {
	t.Helper()
	w := mustNew(t, most)
	for i := range turn {
		checkPut(t, w, -100-i, api.OK)
		checkTake(t, w, -100-i)
	}
	for _, id := range ids {
		checkPut(t, w, id, api.OK)
	}
	checkRow(t, w, ids...)
	return w
}

// upTo are 100, 101 and so on, so many of them.
func upTo(many int) []int {
	l := make([]int, many)
	for i := range l {
		l[i] = 100 + i
	}
	return l
}

// without is a list without what stands at one place of it.
func without(l []int, at int) []int { return slices.Delete(slices.Clone(l), at, at+1) }

// P8.1, P8.2: an ordinary row, and the document's example.
func TestRow(t *testing.T) {
	w := mustNew(t, 2)
	checkEmpty(t, w)
	checkPut(t, w, 5, api.OK)
	checkPut(t, w, 7, api.OK)
	checkPut(t, w, 9, api.ErrFull)
	checkRow(t, w, 5, 7)
	checkTake(t, w, 5)
	checkPut(t, w, 9, api.OK)
	checkRow(t, w, 7, 9)
	checkDrop(t, w, 7, true)
	checkRow(t, w, 9)
	checkTake(t, w, 9)
	checkEmpty(t, w)
}

// P8.1: New of each most that may be, which has room for just so many.
func TestNew(t *testing.T) {
	for most := range api.MostWait + 1 {
		w := mustNew(t, most)
		checkEmpty(t, w)
		ids := upTo(most)
		for i, id := range ids {
			checkPut(t, w, id, api.OK)
			checkRow(t, w, ids[:i+1]...)
		}
		checkFull(t, w)
		for i, id := range ids {
			checkTake(t, w, id)
			checkRow(t, w, ids[i+1:]...)
		}
		checkEmpty(t, w)
	}
}

// P8.1, R2: New of a most that may not be.
func TestNewWrong(t *testing.T) {
	for _, most := range []int{-1, -2, -12, api.MostWait + 1, api.MostWait + 2, 2 * api.MostWait, 100, 1 << 32, 1<<32 + 1, -1 << 32, math.MinInt, math.MinInt + 1, math.MaxInt, math.MaxInt - 1} {
		if w, e := waits.New(most); w != nil || e != api.ErrArg {
			t.Errorf("New(%d): %v, %d", most, w, e)
		}
	}
}

// P8.1, P8.2: a row with room for none.
func TestRoomForNone(t *testing.T) {
	w := mustNew(t, 0)
	for range 30 {
		checkEmpty(t, w)
		checkFull(t, w)
	}
	checkEmpty(t, w)
}

// P8.1, P8.2: a row with room for one, whoever it is.
func TestRoomForOne(t *testing.T) {
	w := mustNew(t, 1)
	for range 3 {
		for _, id := range oddIds() {
			checkEmpty(t, w)
			checkPut(t, w, id, api.OK)
			checkRow(t, w, id)
			checkFull(t, w)
			checkTake(t, w, id)
			checkEmpty(t, w)
			checkPut(t, w, id, api.OK)
			checkDrop(t, w, id, true)
		}
	}
	checkEmpty(t, w)
}

// P8.1, P8.2: a row with room for MostWait, wherever along its ring the first one stands.
func TestRoomForAll(t *testing.T) {
	ids := upTo(api.MostWait)
	for turn := range 2*api.MostWait + 1 {
		w := filled(t, api.MostWait, turn, ids...)
		checkFull(t, w)
		checkTake(t, w, ids[0])
		checkPut(t, w, ids[0], api.OK)
		checkFull(t, w)
		checkRow(t, w, append(slices.Clone(ids[1:]), ids[0])...)
	}
}

// P8.2, R2: who waits already is told so, in a row that has room and in one that has none, and nothing is changed.
func TestPutAgain(t *testing.T) {
	for turn := range api.MostWait {
		for most := range api.MostWait + 1 {
			for many := range most + 1 {
				ids := upTo(many)
				w := filled(t, most, turn*min(most, 1), ids...)
				for _, id := range ids {
					checkPut(t, w, id, api.ErrState)
				}
				checkRow(t, w, ids...)
				first, again := api.OK, api.ErrState
				if many == most {
					first, again = api.ErrFull, api.ErrFull
				}
				checkPut(t, w, 5, first)
				checkPut(t, w, 5, again)
			}
		}
	}
}

// P8.1, P8.2: who waits may be any number, 0 and both ends of int among them.
func TestOddIds(t *testing.T) {
	ids := oddIds()
	for from := range ids {
		l := append(slices.Clone(ids[from:]), ids[:from]...)[:api.MostWait]
		w := mustNew(t, api.MostWait)
		for i, id := range l {
			checkDrop(t, w, id, false)
			checkPut(t, w, id, api.OK)
			checkPut(t, w, id, api.ErrState)
			checkRow(t, w, l[:i+1]...)
		}
		checkFull(t, w)
		for i, id := range l {
			checkTake(t, w, id)
			checkDrop(t, w, id, false)
			checkRow(t, w, l[i+1:]...)
		}
		checkEmpty(t, w)
	}
}

// P8.2: Take until nobody waits, and Put again behind that, many times.
func TestTakeAll(t *testing.T) {
	for most := range api.MostWait + 1 {
		w := mustNew(t, most)
		for round := range 40 {
			ids := upTo(round % (most + 1))
			for _, id := range ids {
				checkPut(t, w, id, api.OK)
			}
			for i, id := range ids {
				checkRow(t, w, ids[i:]...)
				checkTake(t, w, id)
			}
			checkEmpty(t, w)
		}
	}
}

// P8.2: Drop of each one of each row, wherever along the ring it stands: the first, the last, the only one and those between; all others stand as they stood.
func TestDrop(t *testing.T) {
	for turn := range 2 * api.MostWait {
		for many := range api.MostWait + 1 {
			ids := upTo(many)
			for at, id := range ids {
				w := filled(t, many, turn, ids...)
				checkDrop(t, w, id, true)
				checkRow(t, w, without(ids, at)...)
				checkDrop(t, w, id, false)
				checkRow(t, w, without(ids, at)...)
				checkPut(t, w, 5, api.OK)
				checkRow(t, w, append(without(ids, at), 5)...)
				checkFull(t, w)
				for _, left := range append(without(ids, at), 5) {
					checkTake(t, w, left)
				}
				checkEmpty(t, w)
			}
		}
	}
}

// P8.2: Drop of one that doesn't wait changes nothing, also of one that waited and was taken or dropped, or had no room.
func TestDropNone(t *testing.T) {
	for turn := range api.MostWait {
		w := filled(t, 4, turn, 100, 101, 102, 103)
		checkPut(t, w, 9, api.ErrFull)
		checkDrop(t, w, 9, false)
		checkTake(t, w, 100)
		checkDrop(t, w, 100, false)
		checkDrop(t, w, 102, true)
		checkDrop(t, w, 102, false)
		checkDrop(t, w, -100, false)
		checkDrop(t, w, 0, false)
		checkRow(t, w, 101, 103)
		checkPut(t, w, 100, api.OK)
		checkRow(t, w, 101, 103, 100)
	}
}

// P8.2: all are dropped one by one, in each order, wherever along the ring they stand.
func TestDropInEachOrder(t *testing.T) {
	const many = 5
	for _, order := range orders(many) {
		for turn := range api.MostWait {
			ids := upTo(many)
			w := filled(t, many+turn%3, turn, ids...)
			for _, i := range order {
				id := 100 + i
				at := slices.Index(ids, id)
				checkDrop(t, w, id, true)
				ids = without(ids, at)
				if l := w.All(); !slices.Equal(l, ids) {
					t.Fatalf("order %d: %d, not %d", order, l, ids)
				}
			}
			checkEmpty(t, w)
		}
	}
}

// orders are all orders of so many.
func orders(n int) [][]int {
	if n == 0 {
		return [][]int{nil}
	}
	var all [][]int
	for _, l := range orders(n - 1) {
		for at := range n {
			all = append(all, slices.Insert(slices.Clone(l), at, n-1))
		}
	}
	return all
}

// P8.3: who comes first is taken first, and never are there more than there is room for, while the ring goes round many times.
func TestFirstIsFirst(t *testing.T) {
	for most := 1; most <= api.MostWait; most++ {
		for left := range most {
			w := filled(t, most, 0, upTo(left)...)
			for next := left; next < 100; next++ {
				checkPut(t, w, 100+next, api.OK)
				if l := w.All(); len(l) != left+1 || l[0] != 100+next-left || l[left] != 100+next {
					t.Fatalf("room for %d: %d", most, l)
				}
				checkTake(t, w, 100+next-left)
			}
		}
	}
}

// model is a row in another form: a list that is cut and added to.
type model struct {
	most int
	ids  []int
}

func (m *model) put(id int) api.Errno {
	if slices.Contains(m.ids, id) {
		return api.ErrState
	}
	if len(m.ids) >= m.most {
		return api.ErrFull
	}
	m.ids = append(slices.Clone(m.ids), id)
	return api.OK
}

func (m *model) take() (int, bool) {
	if len(m.ids) == 0 {
		return 0, false
	}
	id := m.ids[0]
	m.ids = slices.Clone(m.ids[1:])
	return id, true
}

func (m *model) drop(id int) bool {
	at := slices.Index(m.ids, id)
	if at >= 0 {
		m.ids = without(m.ids, at)
	}
	return at >= 0
}

// call is one of Put, Take and Drop, by its first letter.
type call struct {
	do byte
	id int
}

func (c call) String() string { return fmt.Sprintf("%c%d", c.do, c.id) }

// asRow and asModel tell what a call answers.
func asRow(w *waits.Row, c call) (int, bool) {
	switch c.do {
	case 'P':
		return int(w.Put(c.id)), false
	case 'T':
		return w.Take()
	}
	return 0, w.Drop(c.id)
}

func asModel(m *model, c call) (int, bool) {
	switch c.do {
	case 'P':
		return int(m.put(c.id)), false
	case 'T':
		return m.take()
	}
	return 0, m.drop(c.id)
}

// checkCalls makes calls of a row and of its model, and holds what they answer, and who waits behind each, against each other.
func checkCalls(t *testing.T, w *waits.Row, most int, calls []call) {
	t.Helper()
	m := &model{most: most}
	for i, c := range calls {
		n, is := asRow(w, c)
		wantN, wantIs := asModel(m, c)
		l := w.All()
		if n != wantN || is != wantIs || !slices.Equal(l, m.ids) || len(l) > most {
			t.Fatalf("room for %d, calls %v: %d, %v, not %d, %v; %d, not %d", most, calls[max(0, i-20):i+1], n, is, wantN, wantIs, l, m.ids)
		}
		for ahead := range l {
			if w.At(l[ahead]) != ahead {
				t.Fatalf("room for %d, calls %v: At(%d): %d", most, calls[max(0, i-20):i+1], l[ahead], w.At(l[ahead]))
			}
		}
		if at := w.At(c.id); at != slices.Index(m.ids, c.id) {
			t.Fatalf("room for %d, calls %v: At(%d): %d", most, calls[max(0, i-20):i+1], c.id, at)
		}
	}
}

// shortCalls are all lists of so many calls, with few numbers.
func shortCalls(many int) [][]call {
	each := []call{{'T', 0}}
	for _, id := range []int{0, 1, -1, 7} {
		each = append(each, call{'P', id}, call{'D', id})
	}
	lists := [][]call{nil}
	for range many {
		var next [][]call
		for _, l := range lists {
			for _, c := range each {
				next = append(next, append(slices.Clone(l), c))
			}
		}
		lists = next
	}
	return lists
}

// P8.1, P8.2, P8.3: all short lists of calls, against the model, in rows that begin everywhere along the ring.
func TestShortCalls(t *testing.T) {
	for _, calls := range shortCalls(5) {
		for most := range 4 {
			checkCalls(t, mustNew(t, most), most, calls)
		}
	}
	for _, calls := range shortCalls(4) {
		for turn := 1; turn < api.MostWait; turn++ {
			w := mustNew(t, 3)
			for i := range turn {
				w.Put(i)
				w.Take()
			}
			checkCalls(t, w, 3, calls)
		}
	}
}

// drawnCalls are calls with numbers of a list, among which Put comes so often of ten times.
func drawnCalls(draws *rand.Rand, ids []int, puts, many int) []call {
	calls := make([]call, many)
	for i := range calls {
		c := call{do: 'P', id: ids[draws.Intn(len(ids))]}
		if draws.Intn(10) >= puts {
			c.do = "TDD"[draws.Intn(3)]
		}
		calls[i] = c
	}
	return calls
}

// P8.1, P8.2, P8.3: long runs of drawn calls, against the model; the ring goes round many times, and who is dropped stands on either side of its end.
func TestDrawnCalls(t *testing.T) {
	draws := rand.New(rand.NewSource(8))
	for most := range api.MostWait + 1 {
		for puts := 2; puts <= 9; puts++ {
			ids := oddIds()[:most+1+draws.Intn(len(oddIds())-most)]
			checkCalls(t, mustNew(t, most), most, drawnCalls(draws, ids, puts, 3000))
		}
	}
}

// R3: what All answered may be changed, added to and kept: no row changes with it, nor does it with a row.
func TestAllIsApart(t *testing.T) {
	for turn := range api.MostWait {
		for many := range api.MostWait + 1 {
			ids := upTo(many)
			w := filled(t, api.MostWait, turn, ids...)
			kept := w.All()
			l := w.All()
			for i := range l {
				l[i] = -7
			}
			_ = append(l[:many/2], 8, 9, 10)
			for i := range l[:cap(l)] {
				l[:cap(l)][i] = -9
			}
			checkRow(t, w, ids...)
			for _, id := range ids {
				checkTake(t, w, id)
				w.Put(5)
				w.Drop(5)
			}
			if !slices.Equal(kept, ids) {
				t.Errorf("%d, that was %d", kept, ids)
			}
			checkEmpty(t, w)
		}
	}
}

// R5: of two rows, neither changes with the other.
func TestRowsAreApart(t *testing.T) {
	first, second := mustNew(t, 3), mustNew(t, 3)
	if first == second {
		t.Fatal("New told one twice")
	}
	checkPut(t, first, 1, api.OK)
	checkEmpty(t, second)
	checkPut(t, second, 1, api.OK)
	checkPut(t, second, 2, api.OK)
	checkPut(t, first, 3, api.OK)
	checkRow(t, first, 1, 3)
	checkRow(t, second, 1, 2)
	checkTake(t, second, 1)
	checkDrop(t, first, 3, true)
	third := mustNew(t, 3)
	checkEmpty(t, third)
	checkRow(t, first, 1)
	checkRow(t, second, 2)
	if w, e := waits.New(-1); w != nil || e != api.ErrArg {
		t.Errorf("New(-1): %v, %d", w, e)
	}
	checkRow(t, first, 1)
	checkRow(t, second, 2)
}

// R5: many rows, whose calls come in turn, each against its own model.
func TestManyRows(t *testing.T) {
	draws := rand.New(rand.NewSource(88))
	var rows []*waits.Row
	var models []*model
	for most := range api.MostWait + 1 {
		rows = append(rows, mustNew(t, most))
		models = append(models, &model{most: most})
	}
	for _, c := range drawnCalls(draws, upTo(16), 5, 20000) {
		i := draws.Intn(len(rows))
		n, is := asRow(rows[i], c)
		wantN, wantIs := asModel(models[i], c)
		if n != wantN || is != wantIs {
			t.Fatalf("row %d, %v: %d, %v, not %d, %v", i, c, n, is, wantN, wantIs)
		}
		for j, w := range rows {
			if !slices.Equal(w.All(), models[j].ids) {
				t.Fatalf("row %d behind %v of row %d: %d, not %d", j, c, i, w.All(), models[j].ids)
			}
		}
	}
}

// R4: the same calls, in the same order, answer the same.
func TestTheSameAgain(t *testing.T) {
	calls := drawnCalls(rand.New(rand.NewSource(4)), oddIds(), 6, 500)
	var first []int
	for round := range 20 {
		w := mustNew(t, 7)
		var all []int
		for _, c := range calls {
			n, is := asRow(w, c)
			all = append(all, n, w.At(c.id), w.At(c.id))
			all = append(append(all, w.All()...), w.All()...)
			if is {
				all = append(all, 1)
			}
		}
		if round == 0 {
			first = all
		}
		if !slices.Equal(all, first) {
			t.Fatal("other answers than the first time")
		}
	}
}
