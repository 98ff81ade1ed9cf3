package fold_test

import (
	"bytes"
	digest "crypto/sha256"
	"hash/crc32"
	"math"
	"math/big"
	"math/bits"
	"math/rand"
	"strings"
	"testing"

	"chandlery/api"
	"chandlery/base"
	"chandlery/fold"
	"chandlery/sha256"
)

const (
	most     = 64
	digits32 = "0123456789abcdfghijklmnpqrsvwxyz"
)

// sizesThatAreNone are beside the edges, and far off; some are sizes in their lowest bits.
var sizesThatAreNone = []int{0, -1, -2, -20, -64, -65, 65, 66, 128, 255, 256, 257, 1<<16 + 1, 1<<32 + 1, 1<<32 + 20, math.MinInt32, math.MaxInt32, math.MinInt, math.MinInt + 20, math.MaxInt}

// knownShorts are texts and their short digests, told apart from this program.
var knownShorts = map[string]string{
	"":                        "wi0sw9r4p5prk7acm7i0z1b97h75faw7",
	"a":                       "z3pqd9sdvhirl23r5ialzjlvfdhczsyy",
	"b":                       "01xbv2rln7hn9y2g2pkf9dsardfc9xxn",
	"abc":                     "ldhh7c134ap5swsm86rqnc0i7cinqvrc",
	"123456789":               "43ij03223729wiaxgzsgk8mlgy67cxnv",
	strings.Repeat("a", 1000): "yp4wn80w5s9scf144836iddqfy0dhg74",
	"\x00":                    "7wfr0y1c19wbpyz41a5rxnd2gbm360yx",
	"\xff":                    "a6yvvss2c53cvf2ha774hn11fds120rg",
	"\xc3\xa9":                "gxazkmfa2wh4fabp8jv3vz1gvzg717rh",
}

// foldedOf is P4.1's words, gone for each place k of the answer and each of its bits apart: the bit is 1 where the bytes at k, k and size, and so on have it an odd number of times.
func foldedOf(b []byte, size int) []byte {
	out := make([]byte, size)
	for k := range out {
		for bit := range 8 {
			times := 0
			for at := k; at < len(b); at += size {
				times += int(b[at] >> bit & 1)
			}
			out[k] |= byte(times%2) << bit
		}
	}
	return out
}

// shortOf is P4.1's words of a short digest, by the library's digest and by division of a great number.
func shortOf(text string) string {
	d := digest.Sum256([]byte(text))
	few := foldedOf(d[:], 20)
	for i, j := 0, len(few)-1; i < j; i, j = i+1, j-1 {
		few[i], few[j] = few[j], few[i]
	}
	n, rest := new(big.Int).SetBytes(few), new(big.Int)
	out := make([]byte, 32)
	for k := len(out) - 1; k >= 0; k-- {
		n.DivMod(n, big.NewInt(32), rest)
		out[k] = digits32[rest.Int64()]
	}
	return string(out)
}

func mixedBytes(chance *rand.Rand, n int) []byte {
	b := make([]byte, n)
	chance.Read(b)
	return b
}

// unlike is what two rows of one length are unlike in.
func unlike(a, b []byte) []byte {
	out := make([]byte, len(a))
	for i := range out {
		out[i] = a[i] ^ b[i]
	}
	return out
}

func wantFold(t *testing.T, b []byte, size int, want []byte) {
	t.Helper()
	if got, e := fold.Fold(b, size); !bytes.Equal(got, want) || e != api.OK {
		t.Errorf("Fold(%x, %d) = %x, %d; want %x, OK", b, size, got, e, want)
	}
}

func wantNoFold(t *testing.T, b []byte, size int) {
	t.Helper()
	if got, e := fold.Fold(b, size); len(got) != 0 || e != api.ErrArg {
		t.Errorf("Fold(%x, %d) = %x, %d; want nothing, ErrArg", b, size, got, e)
	}
}

func wantShort(t *testing.T, text, want string) {
	t.Helper()
	if got := fold.Short(text); got != want {
		t.Errorf("Short(%q) = %q; want %q", text, got, want)
	}
}

func wantCrc(t *testing.T, b []byte, want int) {
	t.Helper()
	if got := fold.Crc(b); got != want {
		t.Errorf("Crc of %d bytes %.40x = %x; want %x", len(b), b, got, want)
	}
}

func TestP4_1FoldOfKnownBytes(t *testing.T) {
	wantFold(t, []byte{1, 2, 3, 4, 5}, 2, []byte{7, 6})
	wantFold(t, []byte{1, 2, 3, 4, 5}, 1, []byte{1})
	wantFold(t, []byte{1, 2, 3, 4, 5}, 3, []byte{5, 7, 3})
	wantFold(t, []byte{1, 2, 3, 4, 5}, 4, []byte{4, 2, 3, 4})
	wantFold(t, []byte{1, 2, 3, 4, 5}, 5, []byte{1, 2, 3, 4, 5})
	wantFold(t, []byte{1, 2, 3, 4, 5}, 6, []byte{1, 2, 3, 4, 5, 0})
	wantFold(t, []byte{0xff, 0xff}, 1, []byte{0})
	wantFold(t, []byte{0x80, 0x01, 0xff}, 1, []byte{0x7e})
}

func TestP4_1FoldOfNoBytes(t *testing.T) {
	for size := 1; size <= most; size++ {
		wantFold(t, nil, size, make([]byte, size))
		wantFold(t, []byte{}, size, make([]byte, size))
	}
}

// TestP4_1FoldOfAllSizes: fewer bytes than the size, as many, one more or less, multiples of it, and all beside these.
func TestP4_1FoldOfAllSizes(t *testing.T) {
	chance := rand.New(rand.NewSource(41))
	for size := 1; size <= most; size++ {
		for n := range 3*most + 3 {
			b := mixedBytes(chance, n)
			wantFold(t, b, size, foldedOf(b, size))
		}
		for _, n := range []int{10*size - 1, 10 * size, 10*size + 1, 1000, 4096, 4099} {
			b := mixedBytes(chance, n)
			wantFold(t, b, size, foldedOf(b, size))
		}
	}
}

func TestP4_1FoldOfBytesThatFitIsThemselves(t *testing.T) {
	chance := rand.New(rand.NewSource(42))
	for size := 1; size <= most; size++ {
		for n := range size + 1 {
			b := mixedBytes(chance, n)
			wantFold(t, b, size, append(bytes.Clone(b), make([]byte, size-n)...))
		}
	}
}

// TestP4_1FoldOfOneBit: each bit goes to its place, and nowhere else.
func TestP4_1FoldOfOneBit(t *testing.T) {
	for _, size := range []int{1, 2, 3, 19, 20, 21, 63, 64} {
		for bit := range 8 * 130 {
			b, want := make([]byte, 130), make([]byte, size)
			b[bit/8] = 1 << (bit % 8)
			want[bit/8%size] = 1 << (bit % 8)
			wantFold(t, b, size, want)
		}
	}
}

func TestP4_1FoldOfRowsThatAreAlike(t *testing.T) {
	for size := 1; size <= most; size++ {
		row := bytes.Repeat([]byte{0xa5}, size)
		for times := range 6 {
			want := make([]byte, size)
			if times%2 == 1 {
				want = row
			}
			wantFold(t, bytes.Repeat(row, times), size, want)
		}
	}
}

func TestP4_1FoldRefusesOtherSizes(t *testing.T) {
	for _, size := range sizesThatAreNone {
		for _, b := range [][]byte{nil, {}, {1}, {1, 2, 3, 4, 5}, make([]byte, 64), bytes.Repeat([]byte{0xff}, 65), make([]byte, 1000)} {
			wantNoFold(t, b, size)
		}
	}
	for size := -300; size <= 300; size++ {
		if size < 1 || size > most {
			wantNoFold(t, []byte{1, 2, 3}, size)
		} else {
			wantFold(t, []byte{1, 2, 3}, size, foldedOf([]byte{1, 2, 3}, size))
		}
	}
}

func TestP4_1ShortOfKnownTexts(t *testing.T) {
	for text, want := range knownShorts {
		wantShort(t, text, want)
	}
}

func TestP4_1ShortOfTextsOfAllLengths(t *testing.T) {
	chance := rand.New(rand.NewSource(43))
	for n := range 300 {
		text := string(mixedBytes(chance, n))
		wantShort(t, text, shortOf(text))
	}
	for _, n := range []int{4095, 4096, 4097, 1 << 16, 1<<16 + 1} {
		text := string(mixedBytes(chance, n))
		wantShort(t, text, shortOf(text))
	}
}

// TestP4_1ShortGoesByTheBytesOfTheText: whatever runes they make, or none.
func TestP4_1ShortGoesByTheBytesOfTheText(t *testing.T) {
	for _, text := range []string{"\u00e9", "\u65e5\u672c", "a\x00b", "\x00\x00", "\xff", "\xc3", "\xed\xa0\x80", "\ufffd", " a", "a ", "A", "a\n"} {
		wantShort(t, text, shortOf(text))
	}
	if fold.Short("\xff") == fold.Short("\ufffd") {
		t.Errorf("unlike bytes have one short digest")
	}
}

func TestP4_1ShortHas32Digits(t *testing.T) {
	told := map[string]int{}
	for n := range 2000 {
		s := fold.Short(strings.Repeat("x", n))
		if len(s) != 32 || strings.Trim(s, digits32) != "" {
			t.Errorf("Short of %d bytes = %q", n, s)
		}
		told[s]++
	}
	if len(told) != 2000 {
		t.Errorf("2000 texts have %d short digests", len(told))
	}
}

// TestP4_1ShortIsMadeOfTheLayersBelow: of Sum, Fold and Encode, in this order.
func TestP4_1ShortIsMadeOfTheLayersBelow(t *testing.T) {
	for text := range knownShorts {
		few, e := fold.Fold(sha256.Sum([]byte(text)), 20)
		if e != api.OK {
			t.Fatalf("Fold: %d", e)
		}
		wantShort(t, text, base.Encode(few))
	}
}

func TestP4_2CrcOfKnownBytes(t *testing.T) {
	for text, want := range map[string]int{
		"":                 0,
		"123456789":        0xcbf43926,
		"a":                0xe8b7be43,
		"b":                0x71beeff9,
		"abc":              0x352441c2,
		"\x00":             0xd202ef8d,
		"\xff":             0xff000000,
		"\x00\xff":         0x6cdbfd72,
		"\xff\x00":         0xd2fdef8d,
		"\xff\xff\xff\xff": 0xffffffff,
		"\x00\x00\x00\x00": 0x2144df1c,
		"The quick brown fox jumps over the lazy dog": 0x414fa339,
	} {
		wantCrc(t, []byte(text), want)
	}
	wantCrc(t, nil, 0)
}

func TestP4_2CrcOfEachByte(t *testing.T) {
	for x := range 256 {
		for _, b := range [][]byte{{byte(x)}, {byte(x), 0}, {0, byte(x)}, {0xff, byte(x)}, {byte(x), 0xff}} {
			wantCrc(t, b, int(crc32.ChecksumIEEE(b)))
		}
	}
}

func TestP4_2CrcOfAllLengths(t *testing.T) {
	chance := rand.New(rand.NewSource(44))
	for n := range 600 {
		for _, b := range [][]byte{make([]byte, n), bytes.Repeat([]byte{0xff}, n), mixedBytes(chance, n)} {
			wantCrc(t, b, int(crc32.ChecksumIEEE(b)))
		}
	}
	for _, n := range []int{4096, 1 << 16, 1<<20 + 1} {
		b := mixedBytes(chance, n)
		wantCrc(t, b, int(crc32.ChecksumIEEE(b)))
	}
}

// TestP4_2CrcIsNoLessThanNought: a sum with its highest bit is told as a number above nought.
func TestP4_2CrcIsNoLessThanNought(t *testing.T) {
	high := 0
	for n := range 1000 {
		got := fold.Crc(bytes.Repeat([]byte{7}, n))
		if got < 0 || got > math.MaxUint32 {
			t.Errorf("Crc of %d bytes = %d", n, got)
		}
		high += got >> 31
	}
	if high == 0 || high == 1000 {
		t.Errorf("%d of 1000 sums have the highest bit", high)
	}
}

func TestP4_3FoldOfWhatIsUnlike(t *testing.T) {
	chance := rand.New(rand.NewSource(45))
	for size := 1; size <= most; size++ {
		for _, n := range []int{0, 1, size - 1, size, size + 1, 2 * size, 3*size + 2, 500} {
			a, b := mixedBytes(chance, n), mixedBytes(chance, n)
			one, _ := fold.Fold(a, size)
			other, _ := fold.Fold(b, size)
			if len(one) != size || len(other) != size {
				t.Fatalf("%d bytes folded to %d: %x, %x", n, size, one, other)
			}
			wantFold(t, unlike(a, b), size, unlike(one, other))
			wantFold(t, unlike(a, a), size, make([]byte, size))
		}
	}
}

// TestP4_3FoldWithOneBitTurned: the fold has one bit turned, too.
func TestP4_3FoldWithOneBitTurned(t *testing.T) {
	b := mixedBytes(rand.New(rand.NewSource(46)), 100)
	for _, size := range []int{1, 7, 20, 64} {
		whole, _ := fold.Fold(b, size)
		for bit := range 8 * len(b) {
			b[bit/8] ^= 1 << (bit % 8)
			got, e := fold.Fold(b, size)
			b[bit/8] ^= 1 << (bit % 8)
			if e != api.OK || len(got) != len(whole) {
				t.Fatalf("Fold to %d = %x, %d", size, got, e)
			}
			ones := 0
			for _, x := range unlike(whole, got) {
				ones += bits.OnesCount8(x)
			}
			if ones != 1 {
				t.Errorf("bit %d turned, folded to %d: %d bits are turned", bit, size, ones)
			}
		}
	}
}

// TestP4_3CrcWithOneBitTurned: each bit of some bytes; no two of them have one sum, either.
func TestP4_3CrcWithOneBitTurned(t *testing.T) {
	chance := rand.New(rand.NewSource(47))
	for _, b := range [][]byte{{0}, {0xff}, []byte("a"), []byte("123456789"), make([]byte, 4), make([]byte, 300), bytes.Repeat([]byte{0xff}, 300), mixedBytes(chance, 1000), mixedBytes(chance, 4096)[:700]} {
		told := map[int]int{fold.Crc(b): -1}
		for bit := range 8 * len(b) {
			b[bit/8] ^= 1 << (bit % 8)
			got := fold.Crc(b)
			b[bit/8] ^= 1 << (bit % 8)
			if before, ok := told[got]; ok {
				t.Errorf("%d bytes: bits %d and %d turned (-1: none) have one sum %x", len(b), before, bit, got)
			}
			told[got] = bit
		}
	}
}

// TestR2WhatIsGivenIsLeft: neither the bytes nor the room behind them is written into, be the size good or not.
func TestR2WhatIsGivenIsLeft(t *testing.T) {
	full := bytes.Repeat([]byte{0xcc}, 512)
	for n := range 200 {
		room := bytes.Clone(full)
		given := room[:n]
		fold.Crc(given)
		for size := -1; size <= most+1; size++ {
			fold.Fold(given, size)
		}
		if !bytes.Equal(room, full) {
			t.Fatalf("%d bytes: written into: %x", n, room)
		}
	}
}

// TestR2WhatComesOutIsNew: it shares no memory with what was given, nor with another answer.
func TestR2WhatComesOutIsNew(t *testing.T) {
	for _, n := range []int{0, 1, 19, 20, 21, 40, 100} {
		given := bytes.Repeat([]byte{0xcc}, n)
		want := foldedOf(given, 20)
		one, _ := fold.Fold(given, 20)
		other, _ := fold.Fold(given, 20)
		one = one[:cap(one)]
		for i := range one {
			one[i] = 0x55
		}
		if !bytes.Equal(other, want) || !bytes.Equal(given, bytes.Repeat([]byte{0xcc}, n)) {
			t.Errorf("%d bytes: a change of an answer is seen: %x, %x", n, other, given)
		}
		clear(given)
		if !bytes.Equal(other, want) {
			t.Errorf("%d bytes: a change of what was given is seen: %x", n, other)
		}
	}
}

// TestR2CallsHangOnTheirArgumentsAlone: whatever was called between.
func TestR2CallsHangOnTheirArgumentsAlone(t *testing.T) {
	for range 3 {
		wantFold(t, []byte{1, 2, 3, 4, 5}, 2, []byte{7, 6})
		wantNoFold(t, []byte{1, 2, 3, 4, 5}, 0)
		wantShort(t, "a", knownShorts["a"])
		wantCrc(t, []byte("123456789"), 0xcbf43926)
		wantShort(t, "", knownShorts[""])
		wantCrc(t, nil, 0)
	}
}
