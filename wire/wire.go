// Package wire is layer 1: see shared/doc/01-wire.md.
package wire

import "chandlery/api"

const (
	unit       = 8          // bytes of a number; a text's bytes are a multiple of it
	mostNumber = 2147483647 // the greatest number
)

// Put: a number behind bytes.
func Put(b []byte, n int) ([]byte, api.Errno) {
	if n < 0 || n > mostNumber {
		return nil, api.ErrArg
	}
	out := withRoom(b, unit)
	setNumber(out[len(b):], n)
	return out, api.OK
}

// At: the number at a place, and the place behind it.
func At(b []byte, i int) (int, int, api.Errno) {
	if i < 0 {
		return 0, 0, api.ErrArg
	}
	// A difference, since the sum i+unit may wrap round.
	if len(b)-i < unit {
		return 0, 0, api.ErrMore
	}
	n := number(b[i : i+unit])
	if n > mostNumber {
		return 0, 0, api.ErrLong
	}
	return int(n), i + unit, api.OK
}

// PutText: a text behind bytes.
func PutText(b []byte, s string) []byte {
	out := withRoom(b, unit+len(s)+gap(len(s)))
	setNumber(out[len(b):], len(s))
	copy(out[len(b)+unit:], s)
	return out
}

// TextAt: the text at a place, and the place behind it.
func TextAt(b []byte, i int) (string, int, api.Errno) {
	size, from, err := At(b, i)
	if err != api.OK {
		return "", 0, err
	}
	// Differences again: size+gap may wrap round where an int has 32 bits.
	rest := len(b) - from
	if rest < size || rest-size < gap(size) {
		return "", 0, api.ErrMore
	}
	end := from + size
	behind := end + gap(size)
	if !allNought(b[end:behind]) {
		return "", 0, api.ErrForm
	}
	return string(b[from:end]), behind, api.OK
}

// withRoom copies b into new memory with more bytes 00 behind it: b's own spare room belongs to the caller.
func withRoom(b []byte, more int) []byte {
	out := make([]byte, len(b)+more)
	copy(out, b)
	return out
}

// gap is how many bytes 00 stand behind a text's own.
func gap(size int) int {
	over := size % unit
	if over == 0 {
		return 0
	}
	return unit - over
}

// setNumber writes n into the first eight bytes, the lowest first.
func setNumber(b []byte, n int) {
	for k := range unit {
		b[k] = byte(uint64(n) >> (8 * k))
	}
}

// number reads eight bytes, the lowest first. It takes all 64 bits, so that what is too long is seen and not cut off.
func number(b []byte) uint64 {
	n := uint64(0)
	for k := range unit {
		n |= uint64(b[k]) << (8 * k)
	}
	return n
}

func allNought(b []byte) bool {
	for _, x := range b {
		if x != 0 {
			return false
		}
	}
	return true
}
