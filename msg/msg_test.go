package msg_test

import (
	"bytes"
	"fmt"
	"math"
	"slices"
	"strings"
	"testing"

	"signalman/api"
	"signalman/frame"
	"signalman/msg"
)

// row is a line of the chapter's table; texts below 0: any.
type row struct {
	kind  int
	sizes []int
	texts int
}

// table is the chapter's, by numbers, so that a Kind that is told wrong is seen.
func table() []row {
	return []row{
		{1, nil, 1},
		{2, []int{4}, 1},
		{3, []int{4}, 0},
		{4, nil, 0},
		{5, []int{4}, 0},
		{6, []int{4, 4, 4}, -1},
		{7, []int{4, 4, 4}, 0},
		{8, []int{4, 1}, 0},
		{9, []int{4, 4, 1}, 1},
		{10, []int{4}, 0},
		{11, []int{4}, 0},
		{12, []int{4, 4, 4}, -1},
		{13, []int{4, 1, 4}, 0},
		{14, []int{4, 4, 4}, 0},
	}
}

// wrongKinds are Kinds that there are not; some of them are a Kind's number once they are cut to a byte, or to 32 bits.
var wrongKinds = []int{0, 15, 16, 255, 256, 257, 256 + 14, -1, -14, -255, -242, 1<<32 + 1, math.MinInt, math.MinInt + 1, math.MaxInt}

// greatest is the greatest number of a size.
func greatest(size int) uint64 { return 1<<(8*size) - 1 }

// numbers are as many as the sizes, each told by its size and its place.
func numbers(sizes []int, tell func(size, i int) uint64) []uint64 {
	var n []uint64
	for i, size := range sizes {
		n = append(n, tell(size, i))
	}
	return n
}

// numbersOf are lists of numbers that fit a row: ordinary ones, none but 0, and the greatest.
func numbersOf(r row) [][]uint64 {
	return [][]uint64{
		numbers(r.sizes, func(size, i int) uint64 { return uint64(i + 1) }),
		numbers(r.sizes, func(size, i int) uint64 { return 0 }),
		numbers(r.sizes, func(size, i int) uint64 { return greatest(size) }),
		numbers(r.sizes, func(size, i int) uint64 { return (0x01020304 + uint64(i)<<24) & greatest(size) }),
		numbers(r.sizes, func(size, i int) uint64 { return greatest(size) * uint64(i%2) }),
	}
}

// text is n bytes, of which none is like its neighbours.
func text(n int) string {
	b := make([]byte, n)
	for i := range b {
		b[i] = byte(i + n)
	}
	return string(b)
}

// texts are n of them, of 0, 1, 2 .. 6 bytes, again and again.
func texts(n int) []string {
	var l []string
	for i := range n {
		l = append(l, text(i%7))
	}
	return l
}

// textsOf are lists of texts that fit a row, in a Body that isn't too long.
func textsOf(r row) [][]string {
	switch r.texts {
	case 0:
		return [][]string{nil, {}}
	case 1:
		return [][]string{{""}, {"ab"}, {"\x00\x01"}, {"\xff\xfe"}, {text(api.MostText - 1)}, {text(api.MostText)}}
	}
	return [][]string{
		nil, {}, {""}, {"ab"}, {"", "x"}, {"x", ""}, {"", "", ""}, {"\x00\x00", "\x00\x01a"},
		{text(api.MostText)}, {text(api.MostText), text(84)}, {text(142), text(142)},
		make([]string, api.MostTexts-1), make([]string, api.MostTexts), texts(api.MostTexts - 1), texts(api.MostTexts),
	}
}

// goodMessages are messages of each Kind that have a frame.
func goodMessages() []msg.Msg {
	var l []msg.Msg
	for _, r := range table() {
		for _, n := range numbersOf(r) {
			for _, s := range textsOf(r) {
				l = append(l, msg.Msg{Kind: r.kind, N: n, Texts: s})
			}
		}
	}
	return l
}

// ordinary is a message of a row that may be.
func ordinary(r row) msg.Msg {
	return msg.Msg{Kind: r.kind, N: numbersOf(r)[0], Texts: texts(max(r.texts, 0))}
}

// bodyOf is a message's Body, by the chapter's words.
func bodyOf(m msg.Msg) []byte {
	var b []byte
	for i, n := range m.N {
		for at := table()[m.Kind-1].sizes[i] - 1; at >= 0; at-- {
			b = append(b, byte(n>>(8*at)))
		}
	}
	for _, s := range m.Texts {
		b = append(b, byte(len(s)>>8), byte(len(s)))
		b = append(b, s...)
	}
	return b
}

// copyOf shares no list with m.
func copyOf(m msg.Msg) msg.Msg {
	return msg.Msg{Kind: m.Kind, N: slices.Clone(m.N), Texts: slices.Clone(m.Texts)}
}

// told is m in a few words, however much it has.
func told(m msg.Msg) string {
	var firsts []string
	for _, s := range m.Texts[:min(3, len(m.Texts))] {
		firsts = append(firsts, s[:min(8, len(s))])
	}
	return fmt.Sprintf("{Kind %d, %d numbers %v, %d texts %q}", m.Kind, len(m.N), m.N[:min(5, len(m.N))], len(m.Texts), firsts)
}

// some are the first of b, and how many there are.
func some(b []byte) string { return fmt.Sprintf("%d bytes %v", len(b), b[:min(24, len(b))]) }

func checkRight(t *testing.T, m msg.Msg, want bool) {
	t.Helper()
	if msg.Right(m) != want {
		t.Errorf("%s: Right is not %v", told(m), want)
	}
}

// checkFrameWrong: a message has no frame and no bytes: beside the error all is zero (R2).
func checkFrameWrong(t *testing.T, m msg.Msg, want api.Errno) {
	t.Helper()
	if f, e := msg.Frame(m); f.Kind != 0 || f.Body != nil || e != want {
		t.Errorf("%s: Frame: Kind %d, %s, %d, not %d", told(m), f.Kind, some(f.Body), e, want)
	}
	if b, e := msg.Bytes(m); b != nil || e != want {
		t.Errorf("%s: Bytes: %s, %d, not %d", told(m), some(b), e, want)
	}
}

// checkWrong: a message may not be.
func checkWrong(t *testing.T, m msg.Msg) {
	t.Helper()
	checkRight(t, m, false)
	checkFrameWrong(t, m, api.ErrArg)
}

// checkFrame: a message may be, and has that Body and those bytes.
func checkFrame(t *testing.T, m msg.Msg, body []byte) {
	t.Helper()
	checkRight(t, m, true)
	f, e := msg.Frame(m)
	if int(f.Kind) != m.Kind || !bytes.Equal(f.Body, body) || e != api.OK {
		t.Errorf("%s: Frame: Kind %d, %s, %d, not %s", told(m), f.Kind, some(f.Body), e, some(body))
	}
	count := len(body) + 1
	want := append([]byte{byte(count >> 8), byte(count), byte(m.Kind)}, body...)
	if b, e := msg.Bytes(m); !bytes.Equal(b, want) || e != api.OK {
		t.Errorf("%s: Bytes: %s, %d, not %s", told(m), some(b), e, some(want))
	}
}

func checkOf(t *testing.T, f frame.Frame, want msg.Msg) {
	t.Helper()
	if m, e := msg.Of(f); !msg.Same(m, want) || e != api.OK {
		t.Errorf("Of Kind %d, %s: %s, %d, not %s", f.Kind, some(f.Body), told(m), e, told(want))
	}
}

// checkOfWrong: a frame is no message's; beside the error all is zero (R2).
func checkOfWrong(t *testing.T, f frame.Frame) {
	t.Helper()
	if m, e := msg.Of(f); m.Kind != 0 || m.N != nil || m.Texts != nil || e != api.ErrForm {
		t.Errorf("Of Kind %d, %s: %s, %d", f.Kind, some(f.Body), told(m), e)
	}
}

// P3.1: the Kinds, by their names.
func TestKinds(t *testing.T) {
	for i, kind := range []int{msg.Hello, msg.Query, msg.Ack, msg.Bye, msg.Ready, msg.Rows, msg.Done, msg.Fail, msg.Run, msg.Clear, msg.Probe, msg.Result, msg.Refuse, msg.Health} {
		if kind != i+1 {
			t.Errorf("Kind %d is told as %d", i+1, kind)
		}
	}
}

// P3.1: ordinary messages of each Kind may be, and have a frame.
func TestFrame(t *testing.T) {
	for _, c := range []struct {
		m    msg.Msg
		body []byte
	}{
		{msg.Msg{Kind: msg.Hello, Texts: []string{"ab"}}, []byte{0, 2, 97, 98}},
		{msg.Msg{Kind: msg.Query, N: []uint64{258}, Texts: []string{"x"}}, []byte{0, 0, 1, 2, 0, 1, 120}},
		{msg.Msg{Kind: msg.Ack, N: []uint64{7}}, []byte{0, 0, 0, 7}},
		{msg.Msg{Kind: msg.Bye}, nil},
		{msg.Msg{Kind: msg.Ready, N: []uint64{0x01020304}}, []byte{1, 2, 3, 4}},
		{msg.Msg{Kind: msg.Rows, N: []uint64{1, 2, 3}, Texts: []string{"", "x"}}, []byte{0, 0, 0, 1, 0, 0, 0, 2, 0, 0, 0, 3, 0, 0, 0, 1, 120}},
		{msg.Msg{Kind: msg.Done, N: []uint64{1, 2, 3}}, []byte{0, 0, 0, 1, 0, 0, 0, 2, 0, 0, 0, 3}},
		{msg.Msg{Kind: msg.Fail, N: []uint64{2, 9}}, []byte{0, 0, 0, 2, 9}},
		{msg.Msg{Kind: msg.Run, N: []uint64{1, 2, 1}, Texts: []string{"r"}}, []byte{0, 0, 0, 1, 0, 0, 0, 2, 1, 0, 1, 114}},
		{msg.Msg{Kind: msg.Clear, N: []uint64{6}}, []byte{0, 0, 0, 6}},
		{msg.Msg{Kind: msg.Probe, N: []uint64{256}}, []byte{0, 0, 1, 0}},
		{msg.Msg{Kind: msg.Result, N: []uint64{9, 8, 7}}, []byte{0, 0, 0, 9, 0, 0, 0, 8, 0, 0, 0, 7}},
		{msg.Msg{Kind: msg.Refuse, N: []uint64{1, 8, 3}}, []byte{0, 0, 0, 1, 8, 0, 0, 0, 3}},
		{msg.Msg{Kind: msg.Health, N: []uint64{math.MaxUint32, 0, 1}}, []byte{255, 255, 255, 255, 0, 0, 0, 0, 0, 0, 0, 1}},
	} {
		checkFrame(t, c.m, c.body)
		checkOf(t, frame.Frame{Kind: byte(c.m.Kind), Body: c.body}, c.m)
	}
	for _, m := range goodMessages() {
		checkFrame(t, m, bodyOf(m))
	}
}

// P3.1: a Kind that there is not, whatever else the message has.
func TestWrongKind(t *testing.T) {
	for _, kind := range wrongKinds {
		checkWrong(t, msg.Msg{Kind: kind})
		for _, r := range table() {
			m := ordinary(r)
			m.Kind = kind
			checkWrong(t, m)
		}
	}
}

// P3.1: too few numbers and too many, by each count.
func TestHowManyNumbers(t *testing.T) {
	for _, r := range table() {
		for count := range 10 {
			m := ordinary(r)
			m.N = make([]uint64, count)
			checkRight(t, m, count == len(r.sizes))
			if count != len(r.sizes) {
				checkWrong(t, m)
			}
		}
		m := ordinary(r)
		m.N = make([]uint64, 1<<16)
		checkWrong(t, m)
	}
}

// P3.1: numbers that just fit their size, and the next greater ones, at each place.
func TestHowGreatNumbers(t *testing.T) {
	for _, r := range table() {
		for i, size := range r.sizes {
			most := greatest(size)
			for _, n := range []uint64{0, 1, most / 2, most/2 + 1, most - 1, most} {
				m := ordinary(r)
				m.N[i] = n
				checkFrame(t, m, bodyOf(m))
			}
			for _, n := range []uint64{most + 1, most + 2, most << 1, (most + 1) << 8, 1 << 40, 1 << 63, math.MaxUint64} {
				m := ordinary(r)
				m.N[i] = n
				checkWrong(t, m)
			}
		}
	}
}

// P3.1: no text, one, MostTexts and one more.
func TestHowManyTexts(t *testing.T) {
	for _, r := range table() {
		for count := range api.MostTexts + 3 {
			m := ordinary(r)
			m.Texts = texts(count)
			right := count == r.texts || r.texts < 0 && count <= api.MostTexts
			checkRight(t, m, right)
			if !right {
				checkWrong(t, m)
			}
		}
		m := ordinary(r)
		m.Texts = make([]string, 1<<16)
		checkWrong(t, m)
	}
}

// P3.1: texts of 0, MostText and MostText and 1 bytes, at each place; bytes are counted, not runes.
func TestHowLongTexts(t *testing.T) {
	long := []string{text(api.MostText + 1), text(256), text(65535), text(65536), text(1 << 20), strings.Repeat("é", api.MostText/2+1)}
	for _, r := range table() {
		count := r.texts
		if r.texts < 0 {
			count = 3
		}
		for i := range count {
			for _, s := range []string{"", "x", text(api.MostText - 1), text(api.MostText), strings.Repeat("é", api.MostText/2)} {
				m := ordinary(r)
				m.Texts = make([]string, count)
				m.Texts[i] = s
				checkFrame(t, m, bodyOf(m))
			}
			for _, s := range long {
				m := ordinary(r)
				m.Texts = make([]string, count)
				m.Texts[i] = s
				checkWrong(t, m)
			}
		}
	}
}

// ofBody is a message that may be, whose Body has size bytes, in as few texts as may be.
func ofBody(kind, size int) msg.Msg {
	m := msg.Msg{Kind: kind, N: []uint64{1, 2, 3}}
	for left := size - 12; left > 0; {
		n := min(left-2, 100)
		m.Texts = append(m.Texts, text(n))
		left -= 2 + n
	}
	return m
}

// P3.1: Bodies of MostBody bytes, and of more: the message may be, but has no frame.
func TestHowLongBody(t *testing.T) {
	for _, kind := range []int{msg.Rows, msg.Result} {
		for _, size := range []int{256, api.MostBody - 1, api.MostBody} {
			m := ofBody(kind, size)
			if len(bodyOf(m)) != size {
				t.Fatalf("a Body of %d bytes, not %d", len(bodyOf(m)), size)
			}
			checkFrame(t, m, bodyOf(m))
		}
		for _, size := range []int{api.MostBody + 1, api.MostBody + 2, 400, 512, 556, 1000} {
			m := ofBody(kind, size)
			if len(bodyOf(m)) != size {
				t.Fatalf("a Body of %d bytes, not %d", len(bodyOf(m)), size)
			}
			checkRight(t, m, true)
			checkFrameWrong(t, m, api.ErrLong)
		}
		most := msg.Msg{Kind: kind, N: []uint64{1, 2, 3}, Texts: slices.Repeat([]string{text(api.MostText)}, api.MostTexts)}
		checkRight(t, most, true)
		checkFrameWrong(t, most, api.ErrLong)
	}
}

// R2: of a message that may not be ErrArg is told, though its Body would be too long.
func TestWrongAheadOfLong(t *testing.T) {
	long := slices.Repeat([]string{text(api.MostText)}, api.MostTexts)
	for _, kind := range []int{msg.Rows, msg.Result} {
		checkWrong(t, msg.Msg{Kind: kind, N: []uint64{1, 2, 3}, Texts: append(slices.Clone(long), "")})
		checkWrong(t, msg.Msg{Kind: kind, N: []uint64{1, 2}, Texts: long})
		checkWrong(t, msg.Msg{Kind: kind, N: []uint64{1, 2, 1 << 32}, Texts: long})
		checkWrong(t, msg.Msg{Kind: kind, N: []uint64{1, 2, 3}, Texts: append(slices.Clone(long[1:]), text(api.MostText+1))})
	}
	for _, kind := range []int{msg.Hello, msg.Bye, 0, 15} {
		checkWrong(t, msg.Msg{Kind: kind, Texts: long})
	}
}

// P3.1: messages are the same if all is, of those too that may not be.
func TestSame(t *testing.T) {
	l := []msg.Msg{
		{}, {Kind: 1}, {Kind: 257}, {Kind: -1}, {N: []uint64{0}}, {N: []uint64{0, 0}}, {Texts: []string{""}}, {Texts: []string{"", ""}},
		{Kind: 6, N: []uint64{1, 2, 3}},
		{Kind: 12, N: []uint64{1, 2, 3}},
		{Kind: 6, N: []uint64{1, 2}},
		{Kind: 6, N: []uint64{1, 2, 4}},
		{Kind: 6, N: []uint64{1, 2, 3 + 1<<32}},
		{Kind: 6, N: []uint64{4, 2, 3}},
		{Kind: 6, N: []uint64{2, 1, 3}},
		{Kind: 6, N: []uint64{1, 2, 3}, Texts: []string{"a"}},
		{Kind: 6, N: []uint64{1, 2, 3}, Texts: []string{"A"}},
		{Kind: 6, N: []uint64{1, 2, 3}, Texts: []string{"a", "b"}},
		{Kind: 6, N: []uint64{1, 2, 3}, Texts: []string{"b", "a"}},
		{Kind: 6, N: []uint64{1, 2, 3}, Texts: []string{"ab"}},
		{Kind: 6, N: []uint64{1, 2, 3}, Texts: []string{"a", "b", ""}},
		{Kind: 6, N: []uint64{1, 2, 3}, Texts: []string{"a", "c"}},
		{Kind: 6, N: []uint64{1, 2, 3}, Texts: []string{text(1 << 16)}},
	}
	for i, a := range l {
		for k, b := range l {
			if msg.Same(a, copyOf(b)) != (i == k) {
				t.Errorf("Same(%s, %s): %v", told(a), told(b), i != k)
			}
		}
	}
}

// R6: an empty list and none are one.
func TestEmptyAndNone(t *testing.T) {
	none, empty := msg.Msg{Kind: msg.Bye}, msg.Msg{Kind: msg.Bye, N: []uint64{}, Texts: []string{}}
	if !msg.Same(none, empty) || !msg.Same(empty, none) {
		t.Error("empty lists and none are not the same")
	}
	checkFrame(t, none, nil)
	checkFrame(t, empty, nil)
	checkOf(t, frame.Frame{Kind: msg.Bye}, none)
	checkOf(t, frame.Frame{Kind: msg.Bye, Body: []byte{}}, none)
	checkOfWrong(t, frame.Frame{Kind: msg.Hello, Body: []byte{}})
	checkOfWrong(t, frame.Frame{Kind: msg.Hello})
}

// P3.2: a Kind that there is not, whatever its Body.
func TestOfWrongKind(t *testing.T) {
	bodies := [][]byte{nil, {0}, {0, 0}, {0, 2, 97, 98}, make([]byte, 4), make([]byte, 5), make([]byte, 9), make([]byte, 12), make([]byte, api.MostBody), make([]byte, api.MostBody+1)}
	for kind := range 256 {
		if 1 <= kind && kind <= 14 {
			continue
		}
		for _, b := range bodies {
			checkOfWrong(t, frame.Frame{Kind: byte(kind), Body: b})
		}
	}
}

// endsOf are the places at which a Body of a Kind with any texts may end: behind its numbers, and behind each text.
func endsOf(m msg.Msg) []int {
	at := 12
	ends := []int{at}
	for _, s := range m.Texts {
		at += 2 + len(s)
		ends = append(ends, at)
	}
	return ends
}

// P3.2: a Body that is cut off at each place; where texts may be any, it may end behind each of them.
func TestOfCutOff(t *testing.T) {
	for _, m := range goodMessages() {
		body := bodyOf(m)
		var ends []int
		if m.Kind == msg.Rows || m.Kind == msg.Result {
			ends = endsOf(m)
		}
		for cut := range len(body) {
			f := frame.Frame{Kind: byte(m.Kind), Body: body[:cut]}
			if k := slices.Index(ends, cut); k >= 0 {
				checkOf(t, f, msg.Msg{Kind: m.Kind, N: m.N, Texts: m.Texts[:k]})
				continue
			}
			checkOfWrong(t, f)
		}
	}
}

// P3.2: a Body that has bytes left behind it; where texts may be any, those that are no text.
func TestOfLeftBehind(t *testing.T) {
	for _, m := range goodMessages() {
		body := bodyOf(m)
		left := [][]byte{{0}, {1}, {255}, {0, 1}, {0, 2, 97}, {255, 255}, {0, 0, 0}, {0, 1, 97, 0}}
		if m.Kind != msg.Rows && m.Kind != msg.Result {
			left = append(left, []byte{0, 0}, []byte{0, 1, 97}, []byte{0, 0, 0, 0}, make([]byte, 9))
		}
		for _, b := range left {
			checkOfWrong(t, frame.Frame{Kind: byte(m.Kind), Body: slices.Concat(body, b)})
		}
	}
}

// withText is a Body with numbers of that many bytes ahead, and texts of these sizes behind them.
func withText(ahead int, sizes ...int) []byte {
	b := make([]byte, ahead)
	for _, n := range sizes {
		b = append(b, byte(n>>8), byte(n))
		b = append(b, text(n)...)
	}
	return b
}

// P3.2: texts that are longer than may be, or told to be longer than they are.
func TestOfTextSizes(t *testing.T) {
	for _, c := range []struct{ kind, ahead int }{{msg.Hello, 0}, {msg.Query, 4}, {msg.Run, 9}, {msg.Rows, 12}, {msg.Result, 12}} {
		for _, n := range []int{0, 1, api.MostText - 1, api.MostText} {
			f := frame.Frame{Kind: byte(c.kind), Body: withText(c.ahead, n)}
			m, e := msg.Of(f)
			if len(m.Texts) != 1 || m.Texts[0] != text(n) || e != api.OK {
				t.Errorf("Kind %d, a text of %d bytes: %s, %d", c.kind, n, told(m), e)
			}
			for _, claim := range []int{n + 1, n + 256, 32768 + n, 65535} {
				f.Body[c.ahead], f.Body[c.ahead+1] = byte(claim>>8), byte(claim)
				checkOfWrong(t, f)
			}
		}
		for _, n := range []int{api.MostText + 1, api.MostText + 2, 256, api.MostBody - c.ahead - 2, 1000, 65535} {
			checkOfWrong(t, frame.Frame{Kind: byte(c.kind), Body: withText(c.ahead, n)})
		}
	}
}

// P3.2: no text, one, MostTexts and one more.
func TestOfHowManyTexts(t *testing.T) {
	for _, r := range table() {
		ahead := 0
		for _, size := range r.sizes {
			ahead += size
		}
		for count := range api.MostTexts + 10 {
			f := frame.Frame{Kind: byte(r.kind), Body: withText(ahead, make([]int, count)...)}
			if count == r.texts || r.texts < 0 && count <= api.MostTexts {
				checkOf(t, f, msg.Msg{Kind: r.kind, N: make([]uint64, len(r.sizes)), Texts: make([]string, count)})
			} else {
				checkOfWrong(t, f)
			}
		}
		for _, size := range []int{api.MostBody - 1, api.MostBody} {
			checkOfWrong(t, frame.Frame{Kind: byte(r.kind), Body: make([]byte, size)})
		}
	}
}

// P3.2: Bodies of MostBody bytes, and of more: no message has such a frame, though each text may be.
func TestOfHowLongBody(t *testing.T) {
	for _, kind := range []int{msg.Rows, msg.Result} {
		for _, size := range []int{api.MostBody - 1, api.MostBody} {
			m := ofBody(kind, size)
			checkOf(t, frame.Frame{Kind: byte(kind), Body: bodyOf(m)}, m)
		}
		for _, size := range []int{api.MostBody + 1, api.MostBody + 2, 400, 512, 556, 1000} {
			checkOfWrong(t, frame.Frame{Kind: byte(kind), Body: bodyOf(ofBody(kind, size))})
		}
	}
	for kind := range 256 {
		checkOfWrong(t, frame.Frame{Kind: byte(kind), Body: make([]byte, api.MostBody+1)})
	}
}

// P3.3: messages come back from their frames, and from their bytes.
func TestMessagesComeBack(t *testing.T) {
	for _, m := range goodMessages() {
		f, e := msg.Frame(m)
		if e != api.OK {
			t.Fatalf("Kind %d: %d", m.Kind, e)
		}
		checkOf(t, f, m)
		b, _ := msg.Bytes(m)
		f, n, e := frame.Read(append(b, 7))
		if n != len(b) || e != api.OK {
			t.Fatalf("Kind %d: %d bytes read of %d, %d", m.Kind, n, len(b), e)
		}
		checkOf(t, f, m)
	}
}

// allLists are all lists of up to most of the items.
func allLists[T any](items []T, most int) [][]T {
	all := [][]T{nil}
	last := all
	for range most {
		var next [][]T
		for _, l := range last {
			for _, x := range items {
				next = append(next, append(slices.Clone(l), x))
			}
		}
		all, last = append(all, next...), next
	}
	return all
}

// P3.2, P3.3: of all short Bodies just those are told that a message has, and its frame comes back.
func TestFramesComeBack(t *testing.T) {
	tails := allLists([]byte{0, 1, 2}, 7)
	var words []string
	for _, b := range allLists([]byte{0, 1, 2}, 5) {
		words = append(words, string(b))
	}
	for _, r := range table() {
		has := map[string]bool{}
		n := numbers(r.sizes, func(size, i int) uint64 { return greatest(size) })
		for _, l := range allLists(words, 2) {
			has[string(bodyOf(msg.Msg{Kind: r.kind, Texts: l}))] = len(l) == r.texts || r.texts < 0
		}
		has["\x00\x00\x00\x00\x00\x00"] = r.texts < 0 // three texts: of no more than 7 bytes none but these
		for _, s := range []string{"\x00\x00\x00\x00\x00\x01\x00", "\x00\x00\x00\x00\x00\x01\x01", "\x00\x00\x00\x00\x00\x01\x02",
			"\x00\x00\x00\x01\x00\x00\x00", "\x00\x00\x00\x01\x01\x00\x00", "\x00\x00\x00\x01\x02\x00\x00",
			"\x00\x01\x00\x00\x00\x00\x00", "\x00\x01\x01\x00\x00\x00\x00", "\x00\x01\x02\x00\x00\x00\x00"} {
			has[s] = r.texts < 0
		}
		ahead := bodyOf(msg.Msg{Kind: r.kind, N: n})
		for _, tail := range tails {
			f := frame.Frame{Kind: byte(r.kind), Body: slices.Concat(ahead, tail)}
			if !has[string(tail)] {
				checkOfWrong(t, f)
				continue
			}
			m, e := msg.Of(f)
			back, _ := msg.Frame(m)
			if e != api.OK || !frame.Same(back, f) || !slices.Equal(m.N, n) {
				t.Errorf("Kind %d, %s: %s, %d; back: %s", r.kind, some(f.Body), told(m), e, some(back.Body))
			}
		}
	}
}

// P3.3: frames of which one byte is changed are no message's, or come back from it.
func TestChangedFrames(t *testing.T) {
	for _, m := range goodMessages() {
		body := bodyOf(m)
		for i := range body {
			for _, x := range []byte{1, 2, 0x80, 0xFF} {
				body[i] ^= x
				f := frame.Frame{Kind: byte(m.Kind), Body: body}
				got, e := msg.Of(f)
				if e == api.OK {
					if back, e := msg.Frame(got); !frame.Same(back, f) || e != api.OK || msg.Same(got, m) {
						t.Errorf("Kind %d, %s: %s; back: %s, %d", f.Kind, some(body), told(got), some(back.Body), e)
					}
				} else {
					checkOfWrong(t, f)
				}
				body[i] ^= x
			}
		}
	}
}

// R1: every call ends soon, and none panics, however much is handed in.
func TestMuch(t *testing.T) {
	const much = 1 << 22
	for kind := -1; kind <= 16; kind++ {
		checkWrong(t, msg.Msg{Kind: kind, N: make([]uint64, much)})
		checkWrong(t, msg.Msg{Kind: kind, Texts: make([]string, much)})
		checkWrong(t, msg.Msg{Kind: kind, N: make([]uint64, 4), Texts: []string{strings.Repeat("x", much)}})
	}
	for kind := range 256 {
		checkOfWrong(t, frame.Frame{Kind: byte(kind), Body: make([]byte, much)})
	}
}

// spare is m with room behind its lists, which holds 77 and "spare": who writes there is seen.
func spare(m msg.Msg) msg.Msg {
	n := append(slices.Clone(m.N), 77, 77, 77)
	l := append(slices.Clone(m.Texts), "spare", "spare")
	return msg.Msg{Kind: m.Kind, N: n[:len(m.N)], Texts: l[:len(m.Texts)]}
}

func checkSpare(t *testing.T, m, was msg.Msg) {
	t.Helper()
	if !msg.Same(m, was) {
		t.Errorf("the argument was changed: %s, not %s", told(m), told(was))
	}
	n, l := m.N[len(m.N):len(m.N)+3], m.Texts[len(m.Texts):len(m.Texts)+2]
	if !slices.Equal(n, []uint64{77, 77, 77}) || !slices.Equal(l, []string{"spare", "spare"}) {
		t.Errorf("what lies behind the argument's lists was changed: %v, %q", n, l)
	}
}

// overwrite writes over all of b, its spare room too.
func overwrite(b []byte) {
	b = b[:cap(b)]
	for i := range b {
		b[i] = 0xEE
	}
}

// R3: messages stay as they were, and what is told of them is new, each time.
func TestFrameSharesNothing(t *testing.T) {
	for _, m := range goodMessages() {
		given, body := spare(m), bodyOf(m)
		first, _ := msg.Frame(given)
		second, _ := msg.Frame(given)
		b, _ := msg.Bytes(given)
		overwrite(first.Body)
		overwrite(b)
		if !bytes.Equal(second.Body, body) {
			t.Errorf("two Bodies share their bytes: %s, not %s", some(second.Body), some(body))
		}
		msg.Right(given)
		msg.Same(given, given)
		checkSpare(t, given, m)
		checkFrame(t, given, body)
	}
}

// R3: a frame stays as it was, and its message shares nothing with it.
func TestOfSharesNothing(t *testing.T) {
	for _, m := range goodMessages() {
		body := bodyOf(m)
		room := append(slices.Clone(body), 0xAA, 0xAA, 0xAA)
		f := frame.Frame{Kind: byte(m.Kind), Body: room[:len(body)]}
		first, _ := msg.Of(f)
		second, _ := msg.Of(f)
		if !bytes.Equal(room, append(slices.Clone(body), 0xAA, 0xAA, 0xAA)) {
			t.Errorf("the Body was changed: %s", some(room))
		}
		overwrite(room)
		for i := range first.N {
			first.N[i] = 99
		}
		for i := range first.Texts {
			first.Texts[i] = "changed"
		}
		if !msg.Same(second, m) {
			t.Errorf("a message was changed by its frame, or by another: %s, not %s", told(second), told(m))
		}
	}
}

// R4, R5: nothing is kept: what was wrong, or of another Kind, changes no later answer.
func TestNothingIsKept(t *testing.T) {
	for _, r := range table() {
		m := ordinary(r)
		want := bodyOf(m)
		msg.Frame(msg.Msg{Kind: r.kind, N: make([]uint64, 5), Texts: texts(30)})
		msg.Of(frame.Frame{Kind: byte(r.kind), Body: make([]byte, 299)})
		checkFrame(t, m, want)
		checkOf(t, frame.Frame{Kind: byte(r.kind), Body: want}, m)
	}
}
