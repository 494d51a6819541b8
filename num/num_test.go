package num_test

import (
	"bytes"
	"math"
	"slices"
	"strings"
	"testing"

	"signalman/api"
	"signalman/num"
)

// wrongSizes are all that P1.1 and P1.2 refuse, by their edges.
var wrongSizes = []int{0, 9, -1, -8, 10, 64, 256 + 1, math.MinInt, math.MaxInt, math.MinInt + 1, 1 << 32, 1<<61 + 1}

// greatest is the greatest number that has no more bytes than size.
func greatest(size int) uint64 { return math.MaxUint64 >> (64 - 8*size) }

// edgeNumbers are numbers about the ends of every size.
func edgeNumbers() []uint64 {
	ns := []uint64{0, 1, 2, 0x0102030405060708, math.MaxUint64}
	for size := 1; size <= 8; size++ {
		g := greatest(size)
		ns = append(ns, g-1, g, g/2, g/2+1)
		if size < 8 {
			ns = append(ns, g+1)
		}
	}
	slices.Sort(ns)
	return slices.Compact(ns)
}

// spare is b with room behind it, which holds 0xEE: who writes there is seen.
func spare(b []byte) []byte {
	room := bytes.Repeat([]byte{0xEE}, len(b)+32)
	copy(room, b)
	return room[:len(b)]
}

func checkSpare(t *testing.T, b, want []byte) {
	t.Helper()
	if !bytes.Equal(b, want) {
		t.Errorf("the argument was changed: %v, not %v", b, want)
	}
	if behind := b[len(b):cap(b)]; !bytes.Equal(behind, bytes.Repeat([]byte{0xEE}, len(behind))) {
		t.Errorf("what lies behind the argument was changed: %v", behind)
	}
}

// fill writes over all of b, its spare room too.
func fill(b []byte) {
	b = b[:cap(b)]
	for i := range b {
		b[i] = 0xAA
	}
}

func checkPutWrong(t *testing.T, b []byte, size int, n uint64) {
	t.Helper()
	if out, e := num.Put(b, size, n); out != nil || e != api.ErrArg {
		t.Errorf("Put(%v, %d, %d): %v, %d", b, size, n, out, e)
	}
}

// P1.1: a number's bytes, the highest first.
func TestPut(t *testing.T) {
	for _, c := range []struct {
		b    []byte
		size int
		n    uint64
		want []byte
	}{
		{nil, 3, 258, []byte{0, 1, 2}},
		{[]byte{}, 1, 0, []byte{0}},
		{[]byte{9}, 1, 255, []byte{9, 255}},
		{nil, 2, 256, []byte{1, 0}},
		{nil, 2, 65535, []byte{255, 255}},
		{[]byte{1, 2}, 4, 0x01020304, []byte{1, 2, 1, 2, 3, 4}},
		{nil, 5, 0x0102030405, []byte{1, 2, 3, 4, 5}},
		{nil, 6, 0x010203040506, []byte{1, 2, 3, 4, 5, 6}},
		{nil, 7, 0x01020304050607, []byte{1, 2, 3, 4, 5, 6, 7}},
		{nil, 8, 0x0102030405060708, []byte{1, 2, 3, 4, 5, 6, 7, 8}},
		{nil, 8, math.MaxUint64, []byte{255, 255, 255, 255, 255, 255, 255, 255}},
		{nil, 8, 1 << 63, []byte{128, 0, 0, 0, 0, 0, 0, 0}},
		{nil, 8, 1, []byte{0, 0, 0, 0, 0, 0, 0, 1}},
	} {
		if got, e := num.Put(c.b, c.size, c.n); !bytes.Equal(got, c.want) || e != api.OK {
			t.Errorf("Put(%v, %d, %d): %v, %d", c.b, c.size, c.n, got, e)
		}
	}
}

// P1.1: sizes that may not be, whatever the number.
func TestPutWrongSize(t *testing.T) {
	for _, size := range wrongSizes {
		for _, n := range edgeNumbers() {
			checkPutWrong(t, nil, size, n)
			checkPutWrong(t, []byte{1, 2}, size, n)
		}
	}
}

// P1.1: a number that just has as many bytes as its size, and one more.
func TestPutTooGreat(t *testing.T) {
	for size := 1; size <= 8; size++ {
		for _, n := range edgeNumbers() {
			if n > greatest(size) {
				checkPutWrong(t, nil, size, n)
				checkPutWrong(t, []byte{1, 2}, size, n)
				continue
			}
			out, e := num.Put([]byte{1, 2}, size, n)
			if len(out) != 2+size || !bytes.HasPrefix(out, []byte{1, 2}) || e != api.OK {
				t.Errorf("Put(.., %d, %d): %v, %d", size, n, out, e)
			}
		}
	}
}

// P1.1: a text's bytes: how many, and its own.
func TestPutText(t *testing.T) {
	long := strings.Repeat("long", 65)
	for _, c := range []struct {
		b    []byte
		s    string
		want []byte
	}{
		{nil, "", []byte{0, 0}},
		{[]byte{}, "a", []byte{0, 1, 'a'}},
		{[]byte{5}, "ab", []byte{5, 0, 2, 'a', 'b'}},
		{[]byte{0, 0}, "", []byte{0, 0, 0, 0}},
		{nil, "é", []byte{0, 2, 0xC3, 0xA9}},
		{nil, "\x00\xff\x00", []byte{0, 3, 0, 255, 0}},
		{nil, long, append([]byte{1, 4}, long...)},
	} {
		if got, e := num.PutText(c.b, c.s); !bytes.Equal(got, c.want) || e != api.OK {
			t.Errorf("PutText(%v, %q): %v, %d", c.b, c.s, got, e)
		}
	}
}

// P1.1: the longest text, and those that are longer.
func TestPutTextLong(t *testing.T) {
	longest := strings.Repeat("x", 65535)
	for _, b := range [][]byte{nil, {7}} {
		out, e := num.PutText(b, longest)
		if want := string(b) + "\xff\xff" + longest; string(out) != want || e != api.OK {
			t.Errorf("65535 bytes behind %v: %d bytes, %d", b, len(out), e)
		}
		for _, more := range []int{1, 2, 65536, 65537} {
			if out, e := num.PutText(b, longest+strings.Repeat("y", more)); out != nil || e != api.ErrLong {
				t.Errorf("%d bytes behind %v: %d bytes, %d", 65535+more, b, len(out), e)
			}
		}
	}
}

// P1.2: the number that the bytes begin with, and what is behind.
func TestTake(t *testing.T) {
	for _, c := range []struct {
		b    []byte
		size int
		n    uint64
		rest []byte
	}{
		{[]byte{0, 1, 2}, 3, 258, nil},
		{[]byte{0, 1, 2}, 2, 1, []byte{2}},
		{[]byte{0, 1, 2}, 1, 0, []byte{1, 2}},
		{[]byte{255}, 1, 255, nil},
		{[]byte{1, 2, 3, 4, 5}, 4, 0x01020304, []byte{5}},
		{[]byte{1, 2, 3, 4, 5, 6}, 5, 0x0102030405, []byte{6}},
		{[]byte{1, 2, 3, 4, 5, 6}, 6, 0x010203040506, nil},
		{[]byte{1, 2, 3, 4, 5, 6, 7}, 7, 0x01020304050607, nil},
		{[]byte{255, 255, 255, 255, 255, 255, 255, 255, 9, 8}, 8, math.MaxUint64, []byte{9, 8}},
		{[]byte{128, 0, 0, 0, 0, 0, 0, 0}, 8, 1 << 63, nil},
	} {
		n, rest, e := num.Take(c.b, c.size)
		if n != c.n || !bytes.Equal(rest, c.rest) || e != api.OK {
			t.Errorf("Take(%v, %d): %d, %v, %d", c.b, c.size, n, rest, e)
		}
	}
}

// P1.2: a wrong size is told ahead of bytes that are too few (R2).
func TestTakeWrongSize(t *testing.T) {
	for _, size := range wrongSizes {
		for _, b := range [][]byte{nil, {}, {1}, {1, 2, 3, 4, 5, 6, 7, 8}, bytes.Repeat([]byte{1}, 300)} {
			if n, rest, e := num.Take(b, size); n != 0 || rest != nil || e != api.ErrArg {
				t.Errorf("Take(%d bytes, %d): %d, %v, %d", len(b), size, n, rest, e)
			}
		}
	}
}

// P1.2: numbers that are cut off at each place.
func TestTakeShort(t *testing.T) {
	whole := []byte{1, 2, 3, 4, 5, 6, 7, 8}
	for size := 1; size <= 8; size++ {
		for cut := range size {
			// The bytes that are cut off still lie in the slice's room.
			if n, rest, e := num.Take(whole[:cut], size); n != 0 || rest != nil || e != api.ErrShort {
				t.Errorf("Take(%v, %d): %d, %v, %d", whole[:cut], size, n, rest, e)
			}
		}
	}
	if n, rest, e := num.Take(nil, 1); n != 0 || rest != nil || e != api.ErrShort {
		t.Errorf("Take(nil, 1): %d, %v, %d", n, rest, e)
	}
}

// P1.2: the text that the bytes begin with, and what is behind.
func TestTakeText(t *testing.T) {
	long := strings.Repeat("long", 65)
	for _, c := range []struct {
		b    []byte
		s    string
		rest []byte
	}{
		{[]byte{0, 0}, "", nil},
		{[]byte{0, 0, 'a'}, "", []byte{'a'}},
		{[]byte{0, 1, 'a'}, "a", nil},
		{[]byte{0, 2, 'a', 'b', 0, 1}, "ab", []byte{0, 1}},
		{[]byte{0, 3, 0, 255, 0, 4}, "\x00\xff\x00", []byte{4}},
		{append([]byte{1, 4}, long+"!"...), long, []byte{'!'}},
	} {
		if s, rest, e := num.TakeText(c.b); s != c.s || !bytes.Equal(rest, c.rest) || e != api.OK {
			t.Errorf("TakeText(%v): %q, %v, %d", c.b, s, rest, e)
		}
	}
}

// P1.2: texts that are cut off at each place, in their count and behind it.
func TestTakeTextShort(t *testing.T) {
	for _, s := range []string{"", "a", "abc", strings.Repeat("s", 300), strings.Repeat("l", 65535)} {
		whole, e := num.PutText(nil, s)
		if e != api.OK {
			t.Fatalf("%d bytes: %d", len(s), e)
		}
		for _, cut := range cuts(len(whole)) {
			if got, rest, e := num.TakeText(whole[:cut]); got != "" || rest != nil || e != api.ErrShort {
				t.Errorf("%d of %d bytes: %q, %v, %d", cut, len(whole), got, rest, e)
			}
		}
	}
	if s, rest, e := num.TakeText(nil); s != "" || rest != nil || e != api.ErrShort {
		t.Errorf("TakeText(nil): %q, %v, %d", s, rest, e)
	}
}

// cuts are the places to cut off at: all, or where these are many the first and the last.
func cuts(n int) []int {
	var places []int
	for cut := range n {
		if cut < 400 || cut >= n-400 {
			places = append(places, cut)
		}
	}
	return places
}

// behinds are what may lie behind what was put.
var behinds = [][]byte{nil, {0}, {255}, {0, 0}, {0, 1, 2}, bytes.Repeat([]byte{255}, 9)}

// P1.3: a number that was put is taken, whatever is behind.
func TestNumbersComeBack(t *testing.T) {
	for size := 1; size <= 8; size++ {
		for _, n := range edgeNumbers() {
			if n > greatest(size) {
				continue
			}
			for _, rest := range behinds {
				b, _ := num.Put(nil, size, n)
				got, left, e := num.Take(append(b, rest...), size)
				if got != n || !bytes.Equal(left, rest) || e != api.OK {
					t.Errorf("size %d, %d, behind it %v: %d, %v, %d", size, n, rest, got, left, e)
				}
			}
		}
	}
}

// P1.3: a text that was put is taken, whatever is behind.
func TestTextsComeBack(t *testing.T) {
	for _, s := range []string{"", "a", "\x00", "\xff\xff", "äöü", strings.Repeat("m", 255), strings.Repeat("m", 256), strings.Repeat("l", 65534), strings.Repeat("l", 65535)} {
		for _, rest := range behinds {
			b, _ := num.PutText(nil, s)
			got, left, e := num.TakeText(append(b, rest...))
			if got != s || !bytes.Equal(left, rest) || e != api.OK {
				t.Errorf("%d bytes, behind it %v: %d bytes, %v, %d", len(s), rest, len(got), left, e)
			}
		}
	}
}

// P1.3: what was put one behind the other is taken one by one.
func TestManyComeBack(t *testing.T) {
	b, _ := num.Put(nil, 3, 258)
	b, _ = num.PutText(b, "first")
	b, _ = num.PutText(b, "")
	b, _ = num.Put(b, 8, math.MaxUint64)
	b, _ = num.PutText(b, "last")
	n, b, _ := num.Take(b, 3)
	first, b, _ := num.TakeText(b)
	empty, b, _ := num.TakeText(b)
	most, b, _ := num.Take(b, 8)
	last, b, e := num.TakeText(b)
	if n != 258 || first != "first" || empty != "" || most != math.MaxUint64 || last != "last" || len(b) != 0 || e != api.OK {
		t.Errorf("%d, %q, %q, %d, %q, %v, %d", n, first, empty, most, last, b, e)
	}
}

// P1.3: of one size the greater number has the greater bytes.
func TestGreaterBytes(t *testing.T) {
	for size := 1; size <= 8; size++ {
		var lower []byte
		for _, n := range edgeNumbers() {
			if n > greatest(size) {
				break
			}
			b, _ := num.Put(nil, size, n)
			if lower != nil && bytes.Compare(lower, b) >= 0 {
				t.Errorf("size %d: %v of a lower number, %v of %d", size, lower, b, n)
			}
			lower = b
		}
	}
}

// R3: arguments stay as they were, also the room behind them, and answers share nothing with them.
func TestPutSharesNothing(t *testing.T) {
	for _, was := range [][]byte{{}, {1, 2, 3}} {
		b := spare(was)
		out, _ := num.Put(b, 4, 0x01020304)
		text, _ := num.PutText(b, "ab")
		num.Put(b, 9, 1)
		num.Put(b, 1, 256)
		num.PutText(b, strings.Repeat("x", 65536))
		checkSpare(t, b, was)
		fill(out)
		checkSpare(t, b, was)
		if want := string(was) + "\x00\x02ab"; string(text) != want {
			t.Errorf("two answers share their bytes: %v", text)
		}
		fill(text)
		checkSpare(t, b, was)
	}
}

// R3: what is behind shares nothing with the bytes that it was taken off.
func TestTakeSharesNothing(t *testing.T) {
	was := []byte{0, 2, 'a', 'b', 'c', 'd'}
	for n := 2; n <= len(was); n++ {
		b := spare(was)
		_, rest, _ := num.Take(b, n)
		fill(rest)
		checkSpare(t, b, was)
		_, rest, _ = num.Take(b, n)
		fill(b)
		if !bytes.Equal(rest, was[n:]) {
			t.Errorf("what is behind was changed by its argument: %v", rest)
		}
	}
	b := spare(was)
	_, rest, _ := num.TakeText(b)
	fill(rest)
	checkSpare(t, b, was)
	s, rest, _ := num.TakeText(b)
	fill(b)
	if s != "ab" || string(rest) != "cd" {
		t.Errorf("what was taken was changed by its argument: %q, %v", s, rest)
	}
}

// What is behind is a three-index slice: its capacity tells nothing, whatever its length.
func TestBehindHasNoRoom(t *testing.T) {
	for n := range 70 {
		_, rest, _ := num.Take(make([]byte, 3+n, 200), 3)
		if len(rest) != n || cap(rest) != n {
			t.Errorf("behind a number: %d bytes, room for %d, of %d", len(rest), cap(rest), n)
		}
		_, rest, _ = num.TakeText(make([]byte, 2+n, 200))
		if len(rest) != n || cap(rest) != n {
			t.Errorf("behind a text: %d bytes, room for %d, of %d", len(rest), cap(rest), n)
		}
	}
}
