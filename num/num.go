// Package num is layer 1: see shared/doc/01-num.md.
package num

import "signalman/api"

const (
	byteBits    = 8
	mostSize    = 8 // bytes of a uint64
	textSize    = 2 // bytes that tell how long a text is
	longestText = 1<<(byteBits*textSize) - 1
)

// Put puts a number's bytes behind others.
func Put(b []byte, size int, n uint64) ([]byte, api.Errno) {
	if !isSize(size) || !fits(n, size) {
		return nil, api.ErrArg
	}
	return lay(own(b, size), size, n), api.OK
}

// Take takes a number off.
func Take(b []byte, size int) (uint64, []byte, api.Errno) {
	if !isSize(size) {
		return 0, nil, api.ErrArg
	}
	if len(b) < size {
		return 0, nil, api.ErrShort
	}
	return first(b, size), behind(b, size), api.OK
}

// PutText puts a text's bytes behind others.
func PutText(b []byte, s string) ([]byte, api.Errno) {
	if len(s) > longestText {
		return nil, api.ErrLong
	}
	out := lay(own(b, textSize+len(s)), textSize, uint64(len(s)))
	return append(out, s...), api.OK
}

// TakeText takes a text off.
func TakeText(b []byte) (string, []byte, api.Errno) {
	if len(b) < textSize {
		return "", nil, api.ErrShort
	}
	end := textSize + int(first(b, textSize))
	if len(b) < end {
		return "", nil, api.ErrShort
	}
	return string(b[textSize:end]), behind(b, end), api.OK
}

func isSize(size int) bool { return 1 <= size && size <= mostSize }

// fits needs no case of its own for the greatest size: a shift by all 64 bits leaves 0.
func fits(n uint64, size int) bool { return n>>(byteBits*size) == 0 }

// own copies b, with room for more: an answer that grew in b's spare room would share it with the caller.
func own(b []byte, more int) []byte {
	out := make([]byte, len(b), len(b)+more)
	copy(out, b)
	return out
}

func lay(out []byte, size int, n uint64) []byte {
	for i := range size {
		out = append(out, byte(n>>(byteBits*(size-1-i))))
	}
	return out
}

func first(b []byte, size int) uint64 {
	var n uint64
	for i := range size {
		n = n<<byteBits | uint64(b[i])
	}
	return n
}

// behind is a copy, as an answer shares nothing with its argument. Its capacity
// ends where it ends: how much append had at hand is not to be seen in an answer.
func behind(b []byte, from int) []byte {
	rest := append([]byte(nil), b[from:]...)
	return rest[:len(rest):len(rest)]
}
