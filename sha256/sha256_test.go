package sha256_test

import (
	"bytes"
	oracle "crypto/sha256"
	"encoding"
	"encoding/binary"
	"encoding/hex"
	"math"
	"math/rand"
	"strings"
	"testing"

	"chandlery/api"
	"chandlery/sha256"
)

const (
	most = 1000000000
	word = 4294967295
)

// numbersThatAreNoWords are beside the edges, and far off.
var numbersThatAreNoWords = []int{-1, -2, math.MinInt32, math.MinInt, word + 1, word + 2, 1<<32 + 5, 1 << 33, math.MaxInt}

// mixed is a block mixed into a state by the library, whose digest can be begun at any state, so that the layer isn't held against itself.
func mixed(t *testing.T, state [8]int, block []byte) [8]int {
	t.Helper()
	kept := []byte("sha\x03")
	for _, x := range state {
		kept = binary.BigEndian.AppendUint32(kept, uint32(x))
	}
	kept = append(kept, make([]byte, 64+8)...)
	h := oracle.New()
	if err := h.(encoding.BinaryUnmarshaler).UnmarshalBinary(kept); err != nil {
		t.Fatal(err)
	}
	h.Write(block)
	kept, err := h.(encoding.BinaryMarshaler).MarshalBinary()
	if err != nil {
		t.Fatal(err)
	}
	out := [8]int{}
	for i := range out {
		out[i] = int(binary.BigEndian.Uint32(kept[4+4*i:]))
	}
	return out
}

// padded is P3.1's words of what comes behind n bytes, gone one byte after the other.
func padded(n int) []byte {
	out := []byte{0x80}
	for (n+len(out)+8)%64 != 0 {
		out = append(out, 0)
	}
	return binary.BigEndian.AppendUint64(out, 8*uint64(n))
}

func mixedBytes(chance *rand.Rand, n int) []byte {
	b := make([]byte, n)
	chance.Read(b)
	return b
}

func wantPad(t *testing.T, n int, b []byte, e api.Errno) {
	t.Helper()
	if got, gotE := sha256.Pad(n); !bytes.Equal(got, b) || gotE != e {
		t.Errorf("Pad(%d) = %x, %d; want %x, %d", n, got, gotE, b, e)
	}
}

func wantMix(t *testing.T, state [8]int, block []byte) {
	t.Helper()
	want := mixed(t, state, block)
	if got, e := sha256.Mix(state, block); got != want || e != api.OK {
		t.Errorf("Mix(%x, %x) = %x, %d; want %x", state, block, got, e, want)
	}
}

func wantNoMix(t *testing.T, state [8]int, block []byte) {
	t.Helper()
	if got, e := sha256.Mix(state, block); got != [8]int{} || e != api.ErrArg {
		t.Errorf("Mix(%x, %d bytes) = %x, %d; want noughts, ErrArg", state, len(block), got, e)
	}
}

func wantSum(t *testing.T, b []byte) {
	t.Helper()
	want := oracle.Sum256(b)
	if got := sha256.Sum(b); !bytes.Equal(got, want[:]) {
		t.Errorf("Sum of %d bytes = %x; want %x", len(b), got, want)
	}
}

func wantDigest(t *testing.T, h *sha256.Hash, b []byte) {
	t.Helper()
	want := oracle.Sum256(b)
	if got, e := h.Sum(); !bytes.Equal(got, want[:]) || e != api.OK {
		t.Errorf("the digest of %d bytes = %x, %d; want %x", len(b), got, e, want)
	}
}

func write(t *testing.T, h *sha256.Hash, parts ...[]byte) {
	t.Helper()
	for _, b := range parts {
		if e := h.Write(b); e != api.OK {
			t.Errorf("Write of %d bytes = %d", len(b), e)
		}
	}
}

func TestP3_1PadFillsBlocksUp(t *testing.T) {
	wantPad(t, 0, append([]byte{0x80}, make([]byte, 63)...), api.OK)
	wantPad(t, 55, []byte{0x80, 0, 0, 0, 0, 0, 0, 1, 0xb8}, api.OK)
	for n, size := range map[int]int{0: 64, 1: 63, 54: 10, 55: 9, 56: 72, 57: 71, 63: 65, 64: 64, 65: 63, 119: 9, 120: 72} {
		if got, e := sha256.Pad(n); len(got) != size || e != api.OK {
			t.Errorf("Pad(%d) has %d bytes, %d; want %d", n, len(got), e, size)
		}
	}
	for n := range 1000 {
		wantPad(t, n, padded(n), api.OK)
	}
	for _, n := range []int{1 << 13, 1<<16 - 1, 1<<21 + 9, 1<<24 - 7, 1 << 28, 1<<28 - 1, 536870911, 536870912, 536870913} {
		wantPad(t, n, padded(n), api.OK)
	}
}

func TestP3_1PadAtItsEdges(t *testing.T) {
	wantPad(t, 0, padded(0), api.OK)
	wantPad(t, 1, padded(1), api.OK)
	wantPad(t, most-1, padded(most-1), api.OK)
	wantPad(t, most, padded(most), api.OK)
	for _, n := range []int{-1, -2, -64, math.MinInt32, math.MinInt, most + 1, most + 64, math.MaxInt32, 1 << 32, 1<<32 + 1, math.MaxInt} {
		wantPad(t, n, nil, api.ErrArg)
	}
}

func TestP3_1StartIsSTART(t *testing.T) {
	want := [8]int{0x6a09e667, 0xbb67ae85, 0x3c6ef372, 0xa54ff53a, 0x510e527f, 0x9b05688c, 0x1f83d9ab, 0x5be0cd19}
	first := sha256.Start()
	if first != want {
		t.Errorf("Start() = %x", first)
	}
	clear(first[:])
	if second := sha256.Start(); second != want {
		t.Errorf("Start() = %x behind a change of what it answered", second)
	}
}

func TestP3_2MixOfOneBlock(t *testing.T) {
	block := append([]byte("abc"), padded(3)...)
	want := [8]int{0xba7816bf, 0x8f01cfea, 0x414140de, 0x5dae2223, 0xb00361a3, 0x96177a9c, 0xb410ff61, 0xf20015ad}
	if got, e := sha256.Mix(sha256.Start(), block); got != want || e != api.OK {
		t.Errorf("Mix = %x, %d; want %x", got, e, want)
	}
	wantMix(t, sha256.Start(), block)
}

func TestP3_2MixOfAnyStateAndBlock(t *testing.T) {
	chance := rand.New(rand.NewSource(3))
	for range 2000 {
		state := [8]int{}
		for i := range state {
			state[i] = int(chance.Uint32())
		}
		wantMix(t, state, mixedBytes(chance, 64))
	}
}

// TestP3_2MixOfOneBit: each bit of a block and of a state goes in at its place.
func TestP3_2MixOfOneBit(t *testing.T) {
	for bit := range 512 {
		block := make([]byte, 64)
		block[bit/8] = 1 << (bit % 8)
		wantMix(t, [8]int{}, block)
	}
	for bit := range 256 {
		state := [8]int{}
		state[bit/32] = 1 << (bit % 32)
		wantMix(t, state, make([]byte, 64))
	}
}

func TestP3_2MixAtTheEdgesOfWords(t *testing.T) {
	block := bytes.Repeat([]byte{0xff}, 64)
	for _, n := range []int{0, 1, word - 1, word} {
		wantMix(t, [8]int{n, n, n, n, n, n, n, n}, block)
		wantMix(t, [8]int{n, n, n, n, n, n, n, n}, make([]byte, 64))
		for i := range 8 {
			state := sha256.Start()
			state[i] = n
			wantMix(t, state, block)
		}
	}
}

func TestP3_2MixRefusesWhatIsNoWord(t *testing.T) {
	for _, n := range numbersThatAreNoWords {
		for i := range 8 {
			state := sha256.Start()
			state[i] = n
			wantNoMix(t, state, make([]byte, 64))
			wantNoMix(t, state, make([]byte, 63))
		}
		wantNoMix(t, [8]int{n, n, n, n, n, n, n, n}, make([]byte, 64))
	}
}

func TestP3_2MixRefusesOtherBlocks(t *testing.T) {
	wantNoMix(t, sha256.Start(), nil)
	for size := range 200 {
		if size != 64 {
			wantNoMix(t, sha256.Start(), make([]byte, size))
			wantNoMix(t, sha256.Start(), make([]byte, size, 256))
		}
	}
	for _, size := range []int{63, 65, 128, 1 << 16, 1<<16 + 64} {
		wantNoMix(t, sha256.Start(), make([]byte, size))
	}
}

func TestP3_3SumOfKnownTexts(t *testing.T) {
	for text, want := range map[string]string{
		"":    "e3b0c44298fc1c149afbf4c8996fb92427ae41e4649b934ca495991b7852b855",
		"abc": "ba7816bf8f01cfea414140de5dae2223b00361a396177a9cb410ff61f20015ad",
		"abcdbcdecdefdefgefghfghighijhijkijkljklmklmnlmnomnopnopq":                                                         "248d6a61d20638b8e5c026930c3e6039a33ce45964ff2167f6ecedd419db06c1",
		"abcdefghbcdefghicdefghijdefghijkefghijklfghijklmghijklmnhijklmnoijklmnopjklmnopqklmnopqrlmnopqrsmnopqrstnopqrstu": "cf5b16a778af8380036ce59e7b0492370b249b11e8f07a51afac45037afee9d1",
		strings.Repeat("a", 1000000): "cdc76e5c9914fb9281a1c7e284d73e67f1809a48a497200e046d39ccc7112cd0",
	} {
		if got := hex.EncodeToString(sha256.Sum([]byte(text))); got != want {
			t.Errorf("Sum of %d bytes = %s; want %s", len(text), got, want)
		}
	}
	if got := sha256.Sum(nil); !bytes.Equal(got, sha256.Sum([]byte{})) {
		t.Errorf("Sum(nil) = %x", got)
	}
}

func TestP3_3SumOfAllLengths(t *testing.T) {
	chance := rand.New(rand.NewSource(33))
	for n := range 600 {
		wantSum(t, make([]byte, n))
		wantSum(t, bytes.Repeat([]byte{0xff}, n))
		wantSum(t, mixedBytes(chance, n))
	}
	for _, n := range []int{4095, 4096, 4097, 1<<16 - 9, 1 << 16, 1<<21 + 1} {
		wantSum(t, mixedBytes(chance, n))
	}
}

// TestP3_3SumIsPadMixedIntoStart: the three calls below make the same digest.
func TestP3_3SumIsPadMixedIntoStart(t *testing.T) {
	chance := rand.New(rand.NewSource(34))
	for _, n := range []int{0, 1, 54, 55, 56, 57, 63, 64, 65, 119, 120, 127, 128, 129, 1000} {
		b := mixedBytes(chance, n)
		behind, e := sha256.Pad(n)
		all := append(bytes.Clone(b), behind...)
		if e != api.OK || len(all)%64 != 0 {
			t.Fatalf("%d bytes, padded: %d, %d", n, len(all), e)
		}
		state := sha256.Start()
		for ; len(all) > 0; all = all[64:] {
			if state, e = sha256.Mix(state, all[:64]); e != api.OK {
				t.Fatalf("Mix: %d", e)
			}
		}
		want := []byte{}
		for _, x := range state {
			want = binary.BigEndian.AppendUint32(want, uint32(x))
		}
		if got := sha256.Sum(b); !bytes.Equal(got, want) {
			t.Errorf("Sum of %d bytes = %x; mixed: %x", n, got, want)
		}
	}
}

func TestP3_3AHashBeginsWithoutBytes(t *testing.T) {
	wantDigest(t, sha256.New(), nil)
	one, other := sha256.New(), sha256.New()
	write(t, one, []byte("abc"))
	wantDigest(t, other, nil)
	write(t, other, []byte("x"))
	wantDigest(t, one, []byte("abc"))
	wantDigest(t, other, []byte("x"))
	wantDigest(t, sha256.New(), nil)
}

func TestP3_3AHashHasTheBytesOfItsWrite(t *testing.T) {
	chance := rand.New(rand.NewSource(35))
	for n := range 300 {
		b := mixedBytes(chance, n)
		h := sha256.New()
		write(t, h, b)
		wantDigest(t, h, b)
		wantDigest(t, h, b)
	}
}

// TestP3_3TheBytesStayBehindSum: a digest is asked for between Writes, of all lengths, once and twice.
func TestP3_3TheBytesStayBehindSum(t *testing.T) {
	chance := rand.New(rand.NewSource(36))
	for _, step := range []int{1, 7, 55, 56, 63, 64, 65, 200} {
		h, all := sha256.New(), []byte{}
		for len(all) < 400 {
			b := mixedBytes(chance, step)
			all = append(all, b...)
			write(t, h, b)
			wantDigest(t, h, all)
			wantDigest(t, h, all)
		}
	}
}

func TestP3_3NoHash(t *testing.T) {
	var h *sha256.Hash
	for _, b := range [][]byte{nil, {}, []byte("abc"), make([]byte, 200)} {
		if e := h.Write(b); e != api.ErrNil {
			t.Errorf("Write(%x) of no hash = %d; want ErrNil", b, e)
		}
	}
	if b, e := h.Sum(); len(b) != 0 || e != api.ErrNil {
		t.Errorf("Sum of no hash = %x, %d; want ErrNil", b, e)
	}
}

func TestP3_4PartedInTwoAtEveryPlace(t *testing.T) {
	chance := rand.New(rand.NewSource(37))
	for _, n := range []int{0, 1, 55, 56, 63, 64, 65, 127, 128, 129, 200} {
		b := mixedBytes(chance, n)
		for at := range n + 1 {
			h := sha256.New()
			write(t, h, b[:at], b[at:])
			wantDigest(t, h, b)
			h = sha256.New()
			write(t, h, nil, b[:at], []byte{}, b[at:], nil)
			wantDigest(t, h, b)
		}
	}
}

func TestP3_4PartedInThreeAtEveryPlace(t *testing.T) {
	b := mixedBytes(rand.New(rand.NewSource(38)), 140)
	for first := range len(b) + 1 {
		for second := first; second <= len(b); second++ {
			h := sha256.New()
			write(t, h, b[:first], b[first:second], b[second:])
			wantDigest(t, h, b)
		}
	}
}

func TestP3_4PartedInSteps(t *testing.T) {
	b := mixedBytes(rand.New(rand.NewSource(39)), 1000)
	for step := 1; step <= 200; step++ {
		h := sha256.New()
		for at := 0; at < len(b); at += step {
			write(t, h, b[at:min(at+step, len(b))])
		}
		wantDigest(t, h, b)
	}
}

// TestP3_4PartedByChance: parts of all sizes, empty ones among them, with a digest asked for here and there.
func TestP3_4PartedByChance(t *testing.T) {
	chance := rand.New(rand.NewSource(40))
	for range 500 {
		b := mixedBytes(chance, chance.Intn(1500))
		h := sha256.New()
		for at := 0; at < len(b); {
			n := min(chance.Intn(1+[]int{1, 3, 64, 70, 300}[chance.Intn(5)]), len(b)-at)
			write(t, h, b[at:at+n])
			at += n
			if chance.Intn(8) == 0 {
				wantDigest(t, h, b[:at])
			}
		}
		wantDigest(t, h, b)
		if got, _ := h.Sum(); !bytes.Equal(got, sha256.Sum(b)) {
			t.Errorf("%x; Sum of all = %x", got, sha256.Sum(b))
		}
	}
}

// TestR2WhatIsGivenIsLeft: neither the bytes nor the room behind them is written into.
func TestR2WhatIsGivenIsLeft(t *testing.T) {
	for size := range 200 {
		room := bytes.Repeat([]byte{0xcc}, 512)
		given := room[:size]
		sha256.Sum(given)
		h := sha256.New()
		write(t, h, given, given)
		h.Sum()
		sha256.Mix(sha256.Start(), given)
		if !bytes.Equal(room, bytes.Repeat([]byte{0xcc}, 512)) {
			t.Fatalf("%d bytes: written into: %x", size, room)
		}
	}
}

func TestR2WhatIsGivenIsNotKept(t *testing.T) {
	for size := range 200 {
		given, zeros := bytes.Repeat([]byte{0xcc}, size), make([]byte, 30)
		all := append(bytes.Clone(given), zeros...)
		h := sha256.New()
		write(t, h, given)
		clear(given)
		write(t, h, zeros)
		wantDigest(t, h, all)
	}
}

func TestR2WhatComesOutIsNew(t *testing.T) {
	b := []byte("abc")
	h := sha256.New()
	write(t, h, b)
	for range 2 {
		one := sha256.Sum(b)
		other, _ := h.Sum()
		behind, _ := sha256.Pad(3)
		wantSum(t, b)
		wantDigest(t, h, b)
		wantPad(t, 3, padded(3), api.OK)
		for _, l := range [][]byte{one, other, behind} {
			l = l[:cap(l)]
			for i := range l {
				l[i] = 0x55
			}
		}
	}
	wantSum(t, b)
	wantDigest(t, h, b)
	write(t, h, []byte("def"))
	wantDigest(t, h, []byte("abcdef"))
}
