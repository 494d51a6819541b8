package frame_test

import (
	"bytes"
	"slices"
	"testing"

	"signalman/api"
	"signalman/frame"
)

// body is n bytes, of which none is like its neighbours; its first is first.
func body(n int, first byte) []byte {
	b := make([]byte, n)
	for i := range b {
		b[i] = first + byte(i)
	}
	return b
}

// counted is a count, the highest byte first, and what is behind it.
func counted(count int, behind ...byte) []byte {
	return append([]byte{byte(count >> 8), byte(count)}, behind...)
}

// goodFrames are frames of all edges: Kinds 1 and 255, Bodies of 0 and MostBody bytes.
func goodFrames() []frame.Frame {
	return []frame.Frame{
		{Kind: 7, Body: []byte{9}},
		{Kind: 1},
		{Kind: 255, Body: []byte{0}},
		{Kind: 1, Body: []byte{0, 0, 0}},
		{Kind: 2, Body: body(254, 3)},
		{Kind: 2, Body: body(255, 0)},
		{Kind: 255, Body: body(api.MostBody, 1)},
		{Kind: 1, Body: make([]byte, api.MostBody-1)},
		{Kind: 3, Body: []byte{0, 2, 7, 9}},
		{Kind: 255},
	}
}

func mustBytes(t *testing.T, f frame.Frame) []byte {
	t.Helper()
	b, e := frame.Bytes(f)
	if e != api.OK {
		t.Fatalf("Bytes of Kind %d, %d bytes: %d", f.Kind, len(f.Body), e)
	}
	return b
}

func stream(t *testing.T, frames []frame.Frame) []byte {
	t.Helper()
	var b []byte
	for _, f := range frames {
		b = append(b, mustBytes(t, f)...)
	}
	return b
}

func sameFrames(a, b []frame.Frame) bool { return slices.EqualFunc(a, b, frame.Same) }

// overwrite writes over all of b, its spare room too.
func overwrite(b []byte) {
	b = b[:cap(b)]
	for i := range b {
		b[i] = 0xEE
	}
}

// P2.1: frames are the same by Kind and Body; an empty Body and none are one (R6).
func TestSame(t *testing.T) {
	frames := append(goodFrames(), frame.Frame{}, frame.Frame{Body: []byte{9}}, frame.Frame{Kind: 7, Body: []byte{9, 0}}, frame.Frame{Kind: 7, Body: []byte{8}}, frame.Frame{Kind: 7, Body: make([]byte, api.MostBody+1)})
	for i, a := range frames {
		for k, b := range frames {
			b.Body = slices.Clone(b.Body)
			if frame.Same(a, b) != (i == k) {
				t.Errorf("Same(%v, %v): %v", a, b, i != k)
			}
		}
	}
	none, empty := frame.Frame{Kind: 5}, frame.Frame{Kind: 5, Body: []byte{}}
	if !frame.Same(none, empty) || !frame.Same(empty, none) {
		t.Error("an empty Body and none are not the same")
	}
}

// P2.1: a frame's bytes: how many, its Kind, its Body.
func TestBytes(t *testing.T) {
	for _, c := range []struct {
		f    frame.Frame
		want []byte
	}{
		{frame.Frame{Kind: 7, Body: []byte{9}}, []byte{0, 2, 7, 9}},
		{frame.Frame{Kind: 1}, []byte{0, 1, 1}},
		{frame.Frame{Kind: 1, Body: []byte{}}, []byte{0, 1, 1}},
		{frame.Frame{Kind: 255, Body: []byte{0, 0}}, []byte{0, 3, 255, 0, 0}},
		{frame.Frame{Kind: 9, Body: body(254, 1)}, counted(255, append([]byte{9}, body(254, 1)...)...)},
		{frame.Frame{Kind: 9, Body: body(255, 1)}, counted(256, append([]byte{9}, body(255, 1)...)...)},
		{frame.Frame{Kind: 255, Body: body(300, 1)}, append([]byte{1, 45, 255}, body(300, 1)...)},
	} {
		if got, e := frame.Bytes(c.f); !bytes.Equal(got, c.want) || e != api.OK {
			t.Errorf("Kind %d, %d bytes: %v, %d", c.f.Kind, len(c.f.Body), got, e)
		}
	}
}

// P2.1: a Kind of 0 is told ahead of a Body that is too long (R2).
func TestBytesWrong(t *testing.T) {
	for _, n := range []int{0, 1, api.MostBody, api.MostBody + 1, 70000} {
		if b, e := frame.Bytes(frame.Frame{Body: make([]byte, n)}); b != nil || e != api.ErrArg {
			t.Errorf("Kind 0, %d bytes: %v, %d", n, b, e)
		}
	}
	for _, n := range []int{api.MostBody + 1, api.MostBody + 2, 65534, 65535, 65536, 1 << 20} {
		for _, kind := range []byte{1, 255} {
			if b, e := frame.Bytes(frame.Frame{Kind: kind, Body: make([]byte, n)}); b != nil || e != api.ErrLong {
				t.Errorf("Kind %d, %d bytes: %v, %d", kind, n, b, e)
			}
		}
	}
}

// P2.2: the frame that the bytes begin with, and how many they are, whatever is behind.
func TestRead(t *testing.T) {
	for _, c := range []struct {
		b    []byte
		want frame.Frame
		n    int
	}{
		{[]byte{0, 1, 1}, frame.Frame{Kind: 1}, 3},
		{[]byte{0, 1, 255, 0}, frame.Frame{Kind: 255}, 3},
		{[]byte{0, 2, 7, 9}, frame.Frame{Kind: 7, Body: []byte{9}}, 4},
		{[]byte{0, 3, 7, 0, 0, 0, 0}, frame.Frame{Kind: 7, Body: []byte{0, 0}}, 5},
		{counted(257, append([]byte{4}, body(260, 8)...)...), frame.Frame{Kind: 4, Body: body(256, 8)}, 259},
		{counted(301, append([]byte{4}, body(300, 8)...)...), frame.Frame{Kind: 4, Body: body(300, 8)}, 303},
		{counted(301, append([]byte{4}, body(999, 8)...)...), frame.Frame{Kind: 4, Body: body(300, 8)}, 303},
	} {
		if f, n, e := frame.Read(c.b); !frame.Same(f, c.want) || n != c.n || e != api.OK {
			t.Errorf("Read(%v): %v, %d, %d", c.b, f, n, e)
		}
	}
}

func checkReadWrong(t *testing.T, b []byte, want api.Errno) {
	t.Helper()
	if f, n, e := frame.Read(b); f.Kind != 0 || f.Body != nil || n != 0 || e != want {
		t.Errorf("%d bytes, the first %v: %v, %d, %d, not %d", len(b), b[:min(4, len(b))], f, n, e, want)
	}
}

// P2.2: bytes that are none of a frame, however many are behind them: the error named first is told (R2).
func TestReadWrong(t *testing.T) {
	for _, behind := range []int{0, 1, 2, 301, 70000} {
		for _, first := range []byte{0, 5} {
			rest := body(behind, first)
			checkReadWrong(t, counted(0, rest...), api.ErrForm)
			for _, count := range []int{302, 303, 512, 0x8000, 65535} {
				checkReadWrong(t, counted(count, rest...), api.ErrLong)
			}
		}
	}
	for _, n := range []int{1, 2, 256, 301} {
		checkReadWrong(t, counted(n, make([]byte, n)...), api.ErrForm)
		checkReadWrong(t, counted(n, make([]byte, n+5)...), api.ErrForm)
	}
}

// P2.2: bytes that are cut off at each place, though those cut off lie in the slice's room.
func TestReadShort(t *testing.T) {
	checkReadWrong(t, nil, api.ErrShort)
	for _, f := range goodFrames() {
		whole := mustBytes(t, f)
		for cut := range len(whole) {
			checkReadWrong(t, whole[:cut], api.ErrShort)
		}
	}
	// Of a Kind of 0 nothing is told till the frame is whole.
	noKind := counted(301, make([]byte, 301)...)
	for cut := range len(noKind) {
		checkReadWrong(t, noKind[:cut], api.ErrShort)
	}
}

// step is a Feed, and what is told of it.
type step struct {
	fed    []byte
	frames []frame.Frame
	e      api.Errno
	kept   int
}

func checkSteps(t *testing.T, steps []step) {
	t.Helper()
	d := frame.New()
	if d.Pending() != 0 {
		t.Errorf("a new decoder keeps %d bytes", d.Pending())
	}
	for i, s := range steps {
		if got, e := d.Feed(s.fed); !sameFrames(got, s.frames) || e != s.e || d.Pending() != s.kept {
			t.Errorf("step %d: %v, %d, %d are kept", i, got, e, d.Pending())
		}
	}
}

// P2.3: frames that are whole are told, what is cut off is kept.
func TestFeed(t *testing.T) {
	seven, one := frame.Frame{Kind: 7, Body: []byte{9}}, frame.Frame{Kind: 1}
	checkSteps(t, []step{{fed: []byte{0}, kept: 1}, {fed: []byte{2, 7}, kept: 3}, {fed: []byte{9, 0}, frames: []frame.Frame{seven}, kept: 1}})
	checkSteps(t, []step{{}, {fed: []byte{}}, {fed: []byte{0, 2, 7, 9}, frames: []frame.Frame{seven}}, {}, {fed: []byte{0, 1}, kept: 2}, {kept: 2}, {fed: []byte{1}, frames: []frame.Frame{one}}})
	checkSteps(t, []step{{fed: []byte{0, 2, 7, 9, 0, 1, 1, 0, 2, 7, 9, 0, 2}, frames: []frame.Frame{seven, one, seven}, kept: 2}, {fed: []byte{7}, kept: 3}})
	longest := counted(301, append([]byte{8}, body(300, 1)...)...)
	checkSteps(t, []step{{fed: longest[:302], kept: 302}, {kept: 302}, {fed: longest[302:], frames: []frame.Frame{{Kind: 8, Body: body(300, 1)}}}})
}

// P2.3: any other error is told beside the frames ahead of it, and by each later Feed.
func TestFeedWrong(t *testing.T) {
	seven, one := frame.Frame{Kind: 7, Body: []byte{9}}, frame.Frame{Kind: 1}
	for _, c := range []struct {
		wrong []byte
		e     api.Errno
	}{
		{[]byte{0, 0}, api.ErrForm},
		{[]byte{1, 46}, api.ErrLong},
		{[]byte{255, 255}, api.ErrLong},
		{[]byte{0, 1, 0}, api.ErrForm},
		{[]byte{0, 3, 0, 7, 7}, api.ErrForm},
		{counted(301, make([]byte, 301)...), api.ErrForm},
	} {
		last := len(c.wrong) - 1
		later := []step{{e: c.e}, {fed: []byte{0, 2, 7, 9}, e: c.e}, {fed: []byte{0}, e: c.e}, {fed: []byte{0, 0}, e: c.e}, {fed: []byte{1, 46}, e: c.e}}
		checkSteps(t, append([]step{{fed: c.wrong, e: c.e}}, later...))
		checkSteps(t, append([]step{{fed: c.wrong[:last], kept: last}, {fed: c.wrong[last:], e: c.e}}, later...))
		checkSteps(t, append([]step{{fed: slices.Concat([]byte{0, 2, 7, 9, 0, 1, 1}, c.wrong, []byte{0, 2, 7, 9}), frames: []frame.Frame{seven, one}, e: c.e}}, later...))
		checkSteps(t, append([]step{{fed: []byte{0, 2, 7}, kept: 3}, {fed: append([]byte{9}, c.wrong...), frames: []frame.Frame{seven}, e: c.e}}, later...))
	}
}

// feedParts feeds b in parts that end at the places given, and at its end; what is kept is held against what was told.
func feedParts(t *testing.T, b []byte, ends []int) ([]frame.Frame, api.Errno) {
	t.Helper()
	d := frame.New()
	var all []frame.Frame
	taken, from := 0, 0
	for _, end := range append(slices.Clone(ends), len(b)) {
		got, e := d.Feed(b[from:end])
		all = append(all, got...)
		if e != api.OK {
			return all, e
		}
		for _, f := range got {
			taken += 3 + len(f.Body)
		}
		if d.Pending() != end-taken || d.Pending() > api.MostBody+2 {
			t.Fatalf("%d bytes of %d fed, %d taken: %d are kept", end, len(b), taken, d.Pending())
		}
		from = end
	}
	return all, api.OK
}

// everyNth are the ends of parts of n bytes.
func everyNth(n, size int) []int {
	var ends []int
	for end := n; end < size; end += n {
		ends = append(ends, end)
	}
	return ends
}

// P2.4: frames come back from their bytes, each alone.
func TestFramesComeBack(t *testing.T) {
	for kind := 1; kind <= 255; kind++ {
		for _, n := range []int{0, 1, 2, 253, 254, 255, 256, api.MostBody - 1, api.MostBody} {
			f := frame.Frame{Kind: byte(kind), Body: body(n, byte(kind))}
			b := mustBytes(t, f)
			for _, behind := range [][]byte{nil, {0}, {0, 0}, b} {
				got, size, e := frame.Read(slices.Concat(b, behind))
				if !frame.Same(got, f) || size != len(b) || e != api.OK {
					t.Fatalf("Kind %d, %d bytes, behind it %d: %v, %d, %d", kind, n, len(behind), got, size, e)
				}
			}
		}
	}
}

// P2.4: frames come back however their bytes are parted: byte by byte, all at once, in between.
func TestPartedFramesComeBack(t *testing.T) {
	frames := goodFrames()
	b := stream(t, frames)
	check := func(ends []int) {
		t.Helper()
		if got, e := feedParts(t, b, ends); !sameFrames(got, frames) || e != api.OK {
			t.Fatalf("parted at %v: %v, %d", ends, got, e)
		}
	}
	check(nil)
	for n := 1; n <= len(b); n++ {
		check(everyNth(n, len(b)))
		check([]int{n - 1})
		check([]int{n / 3, n / 2, n / 2, n})
	}
}

// P2.4: the longest frame, all but its last byte, is the most that is kept.
func TestMostIsKept(t *testing.T) {
	b := stream(t, []frame.Frame{{Kind: 5, Body: body(api.MostBody, 7)}})
	d := frame.New()
	most := 0
	for i := range b {
		d.Feed(b[i : i+1])
		most = max(most, d.Pending())
	}
	if most != api.MostBody+2 || d.Pending() != 0 {
		t.Errorf("%d bytes were kept at most, %d at the end", most, d.Pending())
	}
}

// P2.4: what is wrong is told alike, and so are the frames ahead of it, however the bytes are parted.
func TestPartedWrong(t *testing.T) {
	frames := goodFrames()[:4]
	for _, c := range []struct {
		wrong []byte
		e     api.Errno
	}{{[]byte{0, 0}, api.ErrForm}, {[]byte{1, 46}, api.ErrLong}, {[]byte{0, 2, 0, 1}, api.ErrForm}} {
		b := slices.Concat(stream(t, frames), c.wrong, stream(t, frames))
		for n := 1; n <= len(b); n++ {
			if got, e := feedParts(t, b, everyNth(n, len(b))); !sameFrames(got, frames) || e != c.e {
				t.Errorf("%v, in parts of %d: %v, %d", c.wrong, n, got, e)
			}
		}
	}
}

// R1: steps grow with the bytes that are fed, not with their square.
func TestFeedMany(t *testing.T) {
	const many = 1 << 20
	d := frame.New()
	frames, e := d.Feed(bytes.Repeat([]byte{0, 1, 6}, many))
	if len(frames) != many || e != api.OK || d.Pending() != 0 {
		t.Errorf("%d frames, %d, %d are kept", len(frames), e, d.Pending())
	}
}

// R3: a frame stays as it was, and its bytes are new.
func TestBytesShareNothing(t *testing.T) {
	room := body(40, 1)
	f := frame.Frame{Kind: 3, Body: room[:20]}
	first, second := mustBytes(t, f), mustBytes(t, f)
	overwrite(first)
	if !bytes.Equal(room, body(40, 1)) {
		t.Errorf("the Body was changed: %v", room)
	}
	if want := append([]byte{0, 21, 3}, body(20, 1)...); !bytes.Equal(second, want) {
		t.Errorf("two answers share their bytes: %v", second)
	}
}

// R3: a frame that is read shares nothing with the bytes that it was read of.
func TestReadSharesNothing(t *testing.T) {
	was := []byte{0, 3, 7, 8, 9, 0, 1, 1}
	b := slices.Clone(was)
	f, _, _ := frame.Read(b)
	overwrite(f.Body)
	if !bytes.Equal(b, was) {
		t.Errorf("the bytes were changed: %v", b)
	}
	f, _, _ = frame.Read(b)
	overwrite(b)
	if !bytes.Equal(f.Body, []byte{8, 9}) {
		t.Errorf("the Body was changed by its bytes: %v", f.Body)
	}
}

// R3: what is fed, what is kept and what is told share nothing with each other.
func TestFeedSharesNothing(t *testing.T) {
	was := []byte{0, 3, 7, 8, 9, 0, 2, 4, 5, 0, 3, 1}
	fed := slices.Clone(was)
	d := frame.New()
	first, _ := d.Feed(fed[:11])
	if !bytes.Equal(fed, was) {
		t.Errorf("what was fed was changed: %v", fed)
	}
	overwrite(fed)
	if want := []frame.Frame{{Kind: 7, Body: []byte{8, 9}}, {Kind: 4, Body: []byte{5}}}; !sameFrames(first, want) {
		t.Errorf("what was told was changed by what was fed: %v", first)
	}
	overwrite(first[0].Body)
	if !bytes.Equal(first[1].Body, []byte{5}) {
		t.Errorf("two Bodies share their bytes: %v", first)
	}
	overwrite(first[1].Body)
	next, e := d.Feed([]byte{2, 3, 4})
	if want := []frame.Frame{{Kind: 2, Body: []byte{3, 4}}}; !sameFrames(next, want) || e != api.OK {
		t.Errorf("what was kept was changed: %v, %d", next, e)
	}
	if !bytes.Equal(first[1].Body, []byte{0xEE}) {
		t.Errorf("what was told was changed by a later Feed: %v", first)
	}
}

// R4, R5: decoders know nothing of each other, whatever was fed to one of them.
func TestDecodersAreApart(t *testing.T) {
	spoilt, half := frame.New(), frame.New()
	spoilt.Feed([]byte{0, 0})
	half.Feed([]byte{0, 2, 7})
	fresh := frame.New()
	if got, e := fresh.Feed([]byte{0, 1, 1}); !sameFrames(got, []frame.Frame{{Kind: 1}}) || e != api.OK {
		t.Errorf("a new decoder: %v, %d", got, e)
	}
	if got, e := half.Feed([]byte{9}); !sameFrames(got, []frame.Frame{{Kind: 7, Body: []byte{9}}}) || e != api.OK {
		t.Errorf("half a frame: %v, %d", got, e)
	}
	if got, e := spoilt.Feed([]byte{0, 1, 1}); len(got) != 0 || e != api.ErrForm {
		t.Errorf("behind an error: %v, %d", got, e)
	}
}
