package base_test

import (
	"bytes"
	"encoding/hex"
	"math"
	"math/big"
	"math/rand"
	"strings"
	"testing"

	"chandlery/api"
	"chandlery/base"
)

const (
	digits16 = "0123456789abcdef"
	digits32 = "0123456789abcdfghijklmnpqrsvwxyz"
	most     = 1000000000
)

// digits is how many digits n bytes have, by P2.2's words, in numbers that don't wrap round.
func digits(n int) int {
	x := new(big.Int).Mul(big.NewInt(8), big.NewInt(int64(n)))
	x.Add(x, big.NewInt(4))
	return int(x.Div(x, big.NewInt(5)).Int64())
}

// encoded is what P2.2 says of b's digits, told by division of a great number, so that the layer isn't held against itself.
func encoded(b []byte) string {
	high := bytes.Clone(b)
	for i, j := 0, len(high)-1; i < j; i, j = i+1, j-1 {
		high[i], high[j] = high[j], high[i]
	}
	n, rest := new(big.Int).SetBytes(high), new(big.Int)
	out := make([]byte, digits(len(b)))
	for k := len(out) - 1; k >= 0; k-- {
		n.DivMod(n, big.NewInt(32), rest)
		out[k] = digits32[rest.Int64()]
	}
	return string(out)
}

// samples are bytes of all lengths up to four groups of five, with one bit alone, all bits, none, and mixed ones.
func samples() [][]byte {
	l := [][]byte{nil, {}}
	chance := rand.New(rand.NewSource(2))
	for n := 1; n <= 21; n++ {
		mixed := make([]byte, n)
		chance.Read(mixed)
		l = append(l, make([]byte, n), bytes.Repeat([]byte{0xff}, n), mixed)
		for bit := range 8 * n {
			b := make([]byte, n)
			b[bit/8] = 1 << (bit % 8)
			l = append(l, b)
		}
	}
	for _, n := range []int{32, 64, 255, 1000, 4099} {
		b := make([]byte, n)
		chance.Read(b)
		l = append(l, b)
	}
	return l
}

// smallest are all lists of up to two bytes.
func smallest() [][]byte {
	l := [][]byte{nil}
	for x := range 256 {
		l = append(l, []byte{byte(x)})
		for y := range 256 {
			l = append(l, []byte{byte(x), byte(y)})
		}
	}
	return l
}

func wantBytes(t *testing.T, name string, call func(string) ([]byte, api.Errno), s string, b []byte, e api.Errno) {
	t.Helper()
	if got, gotE := call(s); !bytes.Equal(got, b) || gotE != e {
		t.Errorf("%s(%q) = %x, %d; want %x, %d", name, s, got, gotE, b, e)
	}
}

func wantUnhex(t *testing.T, s string, b []byte, e api.Errno) {
	t.Helper()
	wantBytes(t, "Unhex", base.Unhex, s, b, e)
}

func wantDecode(t *testing.T, s string, b []byte, e api.Errno) {
	t.Helper()
	wantBytes(t, "Decode", base.Decode, s, b, e)
}

func wantSize(t *testing.T, n, size int, e api.Errno) {
	t.Helper()
	if got, gotE := base.Size(n); got != size || gotE != e {
		t.Errorf("Size(%d) = %d, %d; want %d, %d", n, got, gotE, size, e)
	}
}

func TestP2_1HexTellsTwoDigitsOfEachByte(t *testing.T) {
	for s, b := range map[string][]byte{"": nil, "00ff": {0, 255}, "0a": {10}, "a0": {160}, "0123456789abcdef": {0x01, 0x23, 0x45, 0x67, 0x89, 0xab, 0xcd, 0xef}} {
		if got := base.Hex(b); got != s {
			t.Errorf("Hex(%x) = %q; want %q", b, got, s)
		}
	}
	for _, b := range append(samples(), smallest()...) {
		if got, want := base.Hex(b), hex.EncodeToString(b); got != want {
			t.Errorf("Hex(%x) = %q", b, got)
		}
	}
}

func TestP2_1UnhexTellsTheBytes(t *testing.T) {
	wantUnhex(t, "", nil, api.OK)
	wantUnhex(t, "00ff", []byte{0, 255}, api.OK)
	for _, b := range append(samples(), smallest()...) {
		wantUnhex(t, hex.EncodeToString(b), b, api.OK)
	}
}

// TestP2_1UnhexOfAllPairs: of all texts of two bytes just those of two digits are bytes.
func TestP2_1UnhexOfAllPairs(t *testing.T) {
	for x := range 256 {
		for y := range 256 {
			s := string([]byte{byte(x), byte(y)})
			high, low := strings.IndexByte(digits16, byte(x)), strings.IndexByte(digits16, byte(y))
			if high < 0 || low < 0 {
				wantUnhex(t, s, nil, api.ErrForm)
			} else {
				wantUnhex(t, s, []byte{byte(16*high + low)}, api.OK)
			}
		}
	}
}

func TestP2_1UnhexRefusesWhatIsNoHex(t *testing.T) {
	for _, s := range []string{"0", "f", "00F", "00f", "000", "00fff", "FF", "fF", "Ff", "0g", "g0", "0x", "0xff", " 0", "0 ", "00 00", "-1", "+1", "0\x00", "\xff\xff", "é", "日本", "00\n"} {
		wantUnhex(t, s, nil, api.ErrForm)
	}
	good := strings.Repeat(digits16, 3)
	for at := range len(good) {
		wantUnhex(t, good[:at]+good[at+1:], nil, api.ErrForm)
		for _, x := range []byte{'A', 'F', 'g', '/', ':', '`', '@', ' ', 0, 0x80, 0xff} {
			wantUnhex(t, good[:at]+string([]byte{x})+good[at+1:], nil, api.ErrForm)
		}
	}
}

func TestP2_2SizeRoundsUp(t *testing.T) {
	for n, want := range []int{0, 2, 4, 5, 7, 8, 10, 12, 13, 15, 16} {
		wantSize(t, n, want, api.OK)
	}
	wantSize(t, 20, 32, api.OK)
	wantSize(t, 32, 52, api.OK)
	for n := range 3000 {
		wantSize(t, n, digits(n), api.OK)
	}
	for _, n := range []int{1 << 28, 268435455, 268435457, 536870911, 536870912, most - 6, most - 2} {
		wantSize(t, n, digits(n), api.OK)
	}
}

func TestP2_2SizeAtItsEdges(t *testing.T) {
	wantSize(t, 0, 0, api.OK)
	wantSize(t, 1, 2, api.OK)
	wantSize(t, most-1, 1599999999, api.OK)
	wantSize(t, most, 1600000000, api.OK)
	for _, n := range []int{-1, -2, -5, math.MinInt32, math.MinInt, most + 1, most + 5, math.MaxInt32, 1 << 32, 1<<32 + 5, math.MaxInt} {
		wantSize(t, n, 0, api.ErrArg)
	}
}

func TestP2_2EncodeTellsTheNumber(t *testing.T) {
	for s, b := range map[string][]byte{"": nil, "7z": {255}, "0001": {1, 0}, "0080": {0, 1}, "1zzz": {255, 255}, "80000": {0, 0, 128}, "00000000": {0, 0, 0, 0, 0}, "zzzzzzzz": {255, 255, 255, 255, 255}} {
		if got := base.Encode(b); got != s {
			t.Errorf("Encode(%x) = %q; want %q", b, got, s)
		}
	}
	for _, b := range append(samples(), smallest()...) {
		if got, want := base.Encode(b), encoded(b); got != want {
			t.Errorf("Encode(%x) = %q; want %q", b, got, want)
		}
	}
}

// TestP2_2EncodeHasTheDigitsByTheirValue: each digit alone, at the lowest place.
func TestP2_2EncodeHasTheDigitsByTheirValue(t *testing.T) {
	for value, digit := range []byte(digits32) {
		s := "0" + string([]byte{digit})
		if got := base.Encode([]byte{byte(value)}); got != s {
			t.Errorf("Encode(%02x) = %q; want %q", value, got, s)
		}
		wantDecode(t, s, []byte{byte(value)}, api.OK)
	}
}

func TestP2_2EncodeHasAsManyDigitsAsSizeSays(t *testing.T) {
	for n := range 500 {
		size, e := base.Size(n)
		for _, b := range [][]byte{make([]byte, n), bytes.Repeat([]byte{0xff}, n)} {
			if got := base.Encode(b); len(got) != size || e != api.OK {
				t.Errorf("%d bytes have %d digits; Size says %d, %d", n, len(got), size, e)
			}
		}
	}
}

func TestP2_2DecodeTellsTheBytes(t *testing.T) {
	wantDecode(t, "", nil, api.OK)
	wantDecode(t, "7z", []byte{255}, api.OK)
	wantDecode(t, "0001", []byte{1, 0}, api.OK)
	for _, b := range append(samples(), smallest()...) {
		wantDecode(t, encoded(b), b, api.OK)
	}
}

// TestP2_2DecodeOfAllPairs: of all texts of two bytes just the 256 that one byte has are told.
func TestP2_2DecodeOfAllPairs(t *testing.T) {
	told := map[string]byte{}
	for x := range 256 {
		told[encoded([]byte{byte(x)})] = byte(x)
	}
	if len(told) != 256 {
		t.Fatalf("%d texts", len(told))
	}
	for x := range 256 {
		for y := range 256 {
			s := string([]byte{byte(x), byte(y)})
			if b, ok := told[s]; ok {
				wantDecode(t, s, []byte{b}, api.OK)
			} else {
				wantDecode(t, s, nil, api.ErrForm)
			}
		}
	}
}

// TestP2_2DecodeRefusesOtherLengths: texts as long as no bytes have.
func TestP2_2DecodeRefusesOtherLengths(t *testing.T) {
	some := map[int]int{}
	for n := range 200 {
		some[digits(n)] = n
	}
	for size := range 300 {
		s := strings.Repeat("0", size)
		if n, ok := some[size]; ok {
			wantDecode(t, s, make([]byte, n), api.OK)
		} else {
			wantDecode(t, s, nil, api.ErrForm)
		}
	}
	for _, s := range []string{"z", "0", "000", "zzz", "000000", "000000000", "7z0", "07z"} {
		wantDecode(t, s, nil, api.ErrForm)
	}
}

// TestP2_2DecodeRefusesBitsThatNoByteHolds: the first digit may have just as many bits as are left to the bytes.
func TestP2_2DecodeRefusesBitsThatNoByteHolds(t *testing.T) {
	wantDecode(t, "8z", nil, api.ErrForm)
	for n := 1; n <= 21; n++ {
		rest := encoded(bytes.Repeat([]byte{0xff}, n))[1:]
		none := strings.Repeat("0", len(rest))
		free := 5*digits(n) - 8*n
		for value, digit := range []byte(digits32) {
			for _, low := range []string{rest, none} {
				s := string([]byte{digit}) + low
				got, e := base.Decode(s)
				if value < 32>>free {
					if e != api.OK || encoded(got) != s {
						t.Errorf("Decode(%q) = %x, %d; want its bytes", s, got, e)
					}
				} else if len(got) != 0 || e != api.ErrForm {
					t.Errorf("Decode(%q) = %x, %d; want ErrForm", s, got, e)
				}
			}
		}
	}
}

func TestP2_2DecodeRefusesWhatIsNoDigit(t *testing.T) {
	for _, n := range []int{1, 2, 3, 4, 5, 20, 32} {
		good := encoded(bytes.Repeat([]byte{0x29}, n))
		for at := range len(good) {
			for x := range 256 {
				if strings.IndexByte(digits32, byte(x)) >= 0 {
					continue
				}
				wantDecode(t, good[:at]+string([]byte{byte(x)})+good[at+1:], nil, api.ErrForm)
			}
		}
	}
	for _, s := range []string{"0e", "0o", "0t", "0u", "e0", "ou", "7Z", "0A", "0 ", "é", "00000日"} {
		wantDecode(t, s, nil, api.ErrForm)
	}
}

func TestP2_3WhatWasMadeDigitsIsTold(t *testing.T) {
	for _, b := range append(samples(), smallest()...) {
		wantUnhex(t, base.Hex(b), b, api.OK)
		wantDecode(t, base.Encode(b), b, api.OK)
	}
}

func TestP2_3WhatIsToldMakesTheSameDigits(t *testing.T) {
	chance := rand.New(rand.NewSource(3))
	const some = digits32 + "eotuAZ \x00\xff"
	told := 0
	for range 200000 {
		s := make([]byte, chance.Intn(11))
		for k := range s {
			s[k] = digits32[chance.Intn(32)]
		}
		if len(s) > 0 && chance.Intn(4) == 0 {
			s[chance.Intn(len(s))] = some[chance.Intn(len(some))]
		}
		if b, e := base.Decode(string(s)); e == api.OK {
			told++
			if got := base.Encode(b); got != string(s) {
				t.Errorf("%q is told as %x, which makes %q", s, b, got)
			}
		}
		if b, e := base.Unhex(string(s)); e == api.OK {
			if got := base.Hex(b); got != string(s) {
				t.Errorf("%q is told as %x, which makes %q", s, b, got)
			}
		}
	}
	if told < 1000 {
		t.Errorf("only %d texts were told", told)
	}
}

func TestP2_3UnlikeBytesHaveUnlikeDigits(t *testing.T) {
	byHex, byDigits := map[string][]byte{}, map[string][]byte{}
	for _, b := range append(samples(), smallest()...) {
		for s, m := range map[string]map[string][]byte{base.Hex(b): byHex, base.Encode(b): byDigits} {
			if other, ok := m[s]; ok && !bytes.Equal(other, b) {
				t.Errorf("%x and %x are both %q", other, b, s)
			}
		}
		byHex[base.Hex(b)], byDigits[base.Encode(b)] = b, b
	}
}

// TestR2WhatIsGivenIsLeft: neither the bytes nor the room behind them is written into, and what comes out is new.
func TestR2WhatIsGivenIsLeft(t *testing.T) {
	for size := range 12 {
		room := bytes.Repeat([]byte{0xcc}, 64)
		given := bytes.Clone(room[:size])
		inHex, inDigits := base.Hex(room[:size]), base.Encode(room[:size])
		if !bytes.Equal(room, bytes.Repeat([]byte{0xcc}, 64)) {
			t.Fatalf("written into: %x", room)
		}
		clear(room)
		if inHex != hex.EncodeToString(given) || inDigits != encoded(given) {
			t.Errorf("the digits changed to %q, %q", inHex, inDigits)
		}
		for name, call := range map[string]func() ([]byte, api.Errno){
			"Unhex":  func() ([]byte, api.Errno) { return base.Unhex(inHex) },
			"Decode": func() ([]byte, api.Errno) { return base.Decode(inDigits) },
		} {
			first, _ := call()
			clear(first[:cap(first)])
			if second, e := call(); !bytes.Equal(second, given) || e != api.OK {
				t.Errorf("%s: answers share memory: %x, %d", name, second, e)
			}
		}
	}
}

// TestP2_2EncodeDoesNotSeeSpareRoom: the highest digit has noughts where the bytes end, whatever stands behind them in memory.
func TestP2_2EncodeDoesNotSeeSpareRoom(t *testing.T) {
	room := bytes.Repeat([]byte{0xff}, 32)
	for size := range 12 {
		if got, want := base.Encode(room[:size]), encoded(bytes.Repeat([]byte{0xff}, size)); got != want {
			t.Errorf("Encode of %d bytes: %q; want %q", size, got, want)
		}
	}
}
