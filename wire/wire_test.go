package wire_test

import (
	"bytes"
	"encoding/binary"
	"math"
	"strings"
	"testing"

	"chandlery/api"
	"chandlery/wire"
)

const most = 2147483647

// eight is the eight bytes of any 64 bits, told by the library, so that the layer isn't held against itself.
func eight(n uint64) []byte { return binary.LittleEndian.AppendUint64(nil, n) }

// text is what P1.2 says of a text's bytes, built one byte at a time.
func text(s string) []byte {
	out := append(eight(uint64(len(s))), s...)
	for len(out)%8 != 0 {
		out = append(out, 0)
	}
	return out
}

// numbers are the edges of a number and of each of its bytes.
func numbers() []int {
	l := []int{0, 1, 2, 258, most - 1, most}
	for shift := 7; shift < 31; shift++ {
		l = append(l, 1<<shift-1, 1<<shift, 1<<shift+1)
	}
	return l
}

// texts have all lengths of three units, with bytes that are no letters, and 00 at the end.
func texts() []string {
	l := []string{"abc", "eight888", "\x00", "a\x00\x00", "\xff\xfe", "日本", strings.Repeat("x", 4096), strings.Repeat("x", 4097)}
	for n := range 25 {
		l = append(l, strings.Repeat("\xa5", n), strings.Repeat("\x00", n))
	}
	return l
}

// surroundings stand ahead and behind.
func surroundings() [][]byte {
	return [][]byte{nil, {}, {0}, {9}, {1, 2, 3, 4, 5, 6, 7}, bytes.Repeat([]byte{0xff}, 8), bytes.Repeat([]byte{7}, 16), bytes.Repeat([]byte{0}, 17)}
}

func together(l ...[]byte) []byte { return bytes.Join(l, nil) }

func wantNumber(t *testing.T, b []byte, i, n, at int, e api.Errno) {
	t.Helper()
	if gotN, gotAt, gotE := wire.At(b, i); gotN != n || gotAt != at || gotE != e {
		t.Errorf("At(%x, %d) = %d, %d, %d; want %d, %d, %d", b, i, gotN, gotAt, gotE, n, at, e)
	}
}

func wantText(t *testing.T, b []byte, i int, s string, at int, e api.Errno) {
	t.Helper()
	if gotS, gotAt, gotE := wire.TextAt(b, i); gotS != s || gotAt != at || gotE != e {
		t.Errorf("TextAt(%x, %d) = %q, %d, %d; want %q, %d, %d", b, i, gotS, gotAt, gotE, s, at, e)
	}
}

func TestP1_1PutLaysANumberBehind(t *testing.T) {
	for _, ahead := range surroundings() {
		for _, n := range numbers() {
			got, e := wire.Put(ahead, n)
			if want := together(ahead, eight(uint64(n))); !bytes.Equal(got, want) || e != api.OK {
				t.Errorf("Put(%x, %d) = %x, %d; want %x", ahead, n, got, e, want)
			}
		}
	}
}

func TestP1_1PutRefusesWhatIsNoNumber(t *testing.T) {
	for _, ahead := range surroundings() {
		for _, n := range []int{-1, -2, -256, math.MinInt32, math.MinInt, most + 1, most + 2, 1 << 32, 1<<32 + 5, math.MaxInt} {
			if got, e := wire.Put(ahead, n); len(got) != 0 || e != api.ErrArg {
				t.Errorf("Put(%x, %d) = %x, %d; want nothing, ErrArg", ahead, n, got, e)
			}
		}
	}
}

func TestP1_1AtTellsTheNumberAndThePlaceBehind(t *testing.T) {
	for _, ahead := range surroundings() {
		for _, behind := range surroundings() {
			for _, n := range numbers() {
				b := together(ahead, eight(uint64(n)), behind)
				wantNumber(t, b, len(ahead), n, len(ahead)+8, api.OK)
			}
		}
	}
}

func TestP1_1AtPlaces(t *testing.T) {
	b := together(eight(5), eight(6))
	for _, i := range []int{-1, -8, math.MinInt} {
		wantNumber(t, b, i, 0, 0, api.ErrArg)
		wantNumber(t, nil, i, 0, 0, api.ErrArg)
	}
	wantNumber(t, b, 0, 5, 8, api.OK)
	wantNumber(t, b, 8, 6, 16, api.OK)
	for _, i := range []int{9, 15, 16, 17, 1000, math.MaxInt - 8, math.MaxInt - 7, math.MaxInt} {
		wantNumber(t, b, i, 0, 0, api.ErrMore)
	}
	for size := range 8 {
		wantNumber(t, make([]byte, size), 0, 0, 0, api.ErrMore)
	}
	wantNumber(t, nil, 0, 0, 0, api.ErrMore)
}

func TestP1_1AtRefusesMoreThanANumber(t *testing.T) {
	for _, n := range []uint64{most + 1, most + 2, 1 << 32, 1<<32 + 5, 1 << 40, 1 << 48, 1 << 56, 1 << 63, 1<<63 - 1, math.MaxUint64} {
		wantNumber(t, eight(n), 0, 0, 0, api.ErrLong)
		wantNumber(t, together([]byte{9}, eight(n), []byte{9}), 1, 0, 0, api.ErrLong)
	}
	// Not whole comes ahead of too long, and a place below 0 ahead of both.
	wantNumber(t, eight(math.MaxUint64)[:7], 0, 0, 0, api.ErrMore)
	wantNumber(t, eight(math.MaxUint64), 1, 0, 0, api.ErrMore)
	wantNumber(t, eight(math.MaxUint64), -1, 0, 0, api.ErrArg)
}

// TestP1_1AtDoesNotSeeSpareRoom: bytes beyond a list's end are not of it, even where they are in memory.
func TestP1_1AtDoesNotSeeSpareRoom(t *testing.T) {
	b := eight(5)
	wantNumber(t, b[:7], 0, 0, 0, api.ErrMore)
	wantText(t, text("abc")[:15], 0, "", 0, api.ErrMore)
}

func TestP1_2PutTextLaysATextBehind(t *testing.T) {
	for _, ahead := range surroundings() {
		for _, s := range texts() {
			if got, want := wire.PutText(ahead, s), together(ahead, text(s)); !bytes.Equal(got, want) {
				t.Errorf("PutText(%x, %q) = %x; want %x", ahead, s, got, want)
			}
		}
	}
}

func TestP1_2Lengths(t *testing.T) {
	for size, want := range map[int]int{0: 8, 1: 16, 7: 16, 8: 16, 9: 24, 15: 24, 16: 24, 17: 32} {
		if got := wire.PutText(nil, strings.Repeat("x", size)); len(got) != want {
			t.Errorf("a text of %d bytes takes %d; want %d", size, len(got), want)
		}
	}
}

func TestP1_2TextAtTellsTheTextAndThePlaceBehind(t *testing.T) {
	for _, ahead := range surroundings() {
		for _, behind := range surroundings() {
			for _, s := range texts() {
				whole := text(s)
				wantText(t, together(ahead, whole, behind), len(ahead), s, len(ahead)+len(whole), api.OK)
			}
		}
	}
}

func TestP1_2TextAtHasTheErrorOfItsLength(t *testing.T) {
	b := text("abc")
	for _, i := range []int{-1, -8, math.MinInt} {
		wantText(t, b, i, "", 0, api.ErrArg)
		wantText(t, nil, i, "", 0, api.ErrArg)
	}
	for _, i := range []int{9, 15, 16, 17, math.MaxInt - 7, math.MaxInt} {
		wantText(t, b, i, "", 0, api.ErrMore)
	}
	wantText(t, nil, 0, "", 0, api.ErrMore)
	for _, n := range []uint64{most + 1, 1 << 32, 1<<32 + 3, 1 << 63, math.MaxUint64 - 7, math.MaxUint64} {
		wantText(t, together(eight(n), []byte("abcdefgh")), 0, "", 0, api.ErrLong)
	}
}

func TestP1_2TextAtWantsTheWholeText(t *testing.T) {
	for _, s := range texts() {
		whole := text(s)
		for size := range whole {
			if size > 40 && size < len(whole)-16 {
				continue
			}
			wantText(t, bytes.Clone(whole[:size]), 0, "", 0, api.ErrMore)
		}
	}
	for _, n := range []uint64{most, most - 6, most - 7, most - 8, 9, 16} {
		wantText(t, together(eight(n), []byte("abcdefgh")), 0, "", 0, api.ErrMore)
	}
	// Not whole comes ahead of a byte that is not 00.
	wantText(t, append(eight(3), "abc\x01\x00\x00\x00"...), 0, "", 0, api.ErrMore)
}

func TestP1_2TextAtWantsNoughtsBehind(t *testing.T) {
	for _, s := range texts() {
		for at := 8 + len(s); at < len(text(s)); at++ {
			for _, x := range []byte{1, 0x80, 0xff} {
				b := text(s)
				b[at] = x
				wantText(t, b, 0, "", 0, api.ErrForm)
				wantText(t, together([]byte{9}, b, []byte{9}), 1, "", 0, api.ErrForm)
			}
		}
	}
	// A text of whole units has no such bytes: what follows it is another's.
	wantText(t, append(text("eight888"), 1, 2, 3), 0, "eight888", 16, api.OK)
	wantText(t, append(text(""), 1, 2, 3), 0, "", 8, api.OK)
}

func TestP1_3WhatIsPutIsTold(t *testing.T) {
	for _, ahead := range surroundings() {
		b, at := ahead, len(ahead)
		for _, n := range numbers() {
			b, _ = wire.Put(b, n)
		}
		for _, s := range texts() {
			b = wire.PutText(b, s)
		}
		b = append(b, 0xee)
		for _, n := range numbers() {
			wantNumber(t, b, at, n, at+8, api.OK)
			_, at, _ = wire.At(b, at)
		}
		for _, s := range texts() {
			wantText(t, b, at, s, at+len(text(s)), api.OK)
			_, at, _ = wire.TextAt(b, at)
		}
		if at != len(b)-1 {
			t.Errorf("behind %x: told up to %d of %d", ahead, at, len(b)-1)
		}
	}
}

// tellAndPut holds what is told at a place of b against what is put of it.
func tellAndPut(t *testing.T, b []byte, i int) {
	t.Helper()
	if n, at, e := wire.At(b, i); e == api.OK {
		if got, e := wire.Put(b[:i], n); !bytes.Equal(got, b[:at]) || e != api.OK {
			t.Errorf("told %d of %x at %d, put as %x, %d", n, b, i, got, e)
		}
	}
	if s, at, e := wire.TextAt(b, i); e == api.OK {
		if got := wire.PutText(b[:i], s); !bytes.Equal(got, b[:at]) {
			t.Errorf("told %q of %x at %d, put as %x", s, b, i, got)
		}
	}
}

func TestP1_3WhatIsToldIsPut(t *testing.T) {
	for _, ahead := range surroundings() {
		for _, s := range texts()[:6] {
			whole := together(ahead, text(s), []byte{3, 0, 0, 0, 0, 0, 0, 0})
			for at := range whole {
				for _, x := range []byte{0, 1, 3, 8, 0x7f, 0x80, 0xff} {
					b := bytes.Clone(whole)
					b[at] = x
					for i := range len(b) + 2 {
						tellAndPut(t, b, i)
					}
				}
			}
		}
	}
}

func TestP1_3MultiplesOfEightStaySo(t *testing.T) {
	for units := range 4 {
		ahead := bytes.Repeat([]byte{5}, 8*units)
		for _, n := range numbers() {
			if b, _ := wire.Put(ahead, n); len(b)%8 != 0 || len(b) == 0 {
				t.Errorf("Put behind %d bytes makes %d", len(ahead), len(b))
			}
		}
		for _, s := range texts() {
			if b := wire.PutText(ahead, s); len(b)%8 != 0 || len(b) == 0 {
				t.Errorf("PutText of %d bytes behind %d makes %d", len(s), len(ahead), len(b))
			}
		}
	}
}

// TestR2PutLeavesWhatItIsGiven: neither the bytes ahead nor the room behind them is written into, and two answers of one list share nothing.
func TestR2PutLeavesWhatItIsGiven(t *testing.T) {
	for _, size := range []int{0, 3, 8} {
		room := bytes.Repeat([]byte{0xcc}, 64)
		b := room[:size]
		first, _ := wire.Put(b, most)
		second, _ := wire.Put(b, 1)
		third := wire.PutText(b, "abc")
		if !bytes.Equal(room, bytes.Repeat([]byte{0xcc}, 64)) {
			t.Fatalf("written into: %x", room)
		}
		for k := range room {
			room[k] = 0x11
		}
		for _, l := range [][]byte{first[:size], second[:size], third[:size]} {
			if !bytes.Equal(l, bytes.Repeat([]byte{0xcc}, size)) {
				t.Errorf("an answer shares memory with what was given: %x", l)
			}
		}
		if !bytes.Equal(first[size:], eight(most)) || !bytes.Equal(second[size:], eight(1)) || !bytes.Equal(third[size:], text("abc")) {
			t.Errorf("answers share memory: %x, %x, %x", first, second, third)
		}
	}
}

// TestR2TellingLeavesWhatItIsGiven: the text that comes out is not that of the list when it changes.
func TestR2TellingLeavesWhatItIsGiven(t *testing.T) {
	b := text("abc")
	wantNumber(t, b, 0, 3, 8, api.OK)
	s, _, _ := wire.TextAt(b, 0)
	if !bytes.Equal(b, text("abc")) {
		t.Errorf("written into: %x", b)
	}
	b[8] = 'z'
	if s != "abc" {
		t.Errorf("the text changed to %q", s)
	}
}
