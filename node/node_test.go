package node_test

import (
	"bytes"
	"encoding/binary"
	"fmt"
	"math"
	"math/rand"
	"slices"
	"strings"
	"testing"

	"chandlery/api"
	"chandlery/node"
)

const lastChild = 16777215

// pageSizes are the edges of what pages may have, and numbers at which Most leaps or 255 becomes the narrower limit.
func pageSizes() []int {
	return []int{64, 65, 66, 67, 68, 127, 128, 129, 512, 1051, 1052, 1055, 1056, 1057, 2071, 2072, 4095, 4096}
}

func wrongSizes() []int {
	return []int{math.MinInt, math.MinInt32, -4096, -64, -1, 0, 1, 16, 32, 62, 63, 4097, 4098, 8192, math.MaxInt32, math.MaxInt}
}

// mostOf is the greatest number that is not above (size - 16) / 4 - 4, found by trying.
func mostOf(size int) int {
	most := 0
	for 4*(most+1+4) <= size-16 {
		most++
	}
	return most
}

func leaf(pairs ...api.Pair) api.Node { return api.Node{Leaf: true, Pairs: pairs} }

func inner(children []int, keys ...string) api.Node { return api.Node{Children: children, Keys: keys} }

// leafOf has these keys, without values.
func leafOf(keys ...string) api.Node {
	n := leaf()
	for _, key := range keys {
		n.Pairs = append(n.Pairs, api.Pair{Key: key})
	}
	return n
}

// innerOf has these keys, and one Child more.
func innerOf(keys ...string) api.Node { return inner(upFrom(1, len(keys)+1), keys...) }

func upFrom(first, count int) []int {
	var l []int
	for k := range count {
		l = append(l, first+k)
	}
	return l
}

// text has so many bytes.
func text(size int) string { return strings.Repeat("k", size) }

func keysOf(n api.Node) []string {
	if !n.Leaf {
		return n.Keys
	}
	var l []string
	for _, p := range n.Pairs {
		l = append(l, p.Key)
	}
	return l
}

func rise(keys []string) bool {
	for i := range keys {
		for j := range i {
			if strings.Compare(keys[j], keys[i]) >= 0 {
				return false
			}
		}
	}
	return true
}

// fits is what the chapter says of which node may be, but for its size and the page's.
func fits(n api.Node, size int) bool {
	for _, key := range keysOf(n) {
		if len(key) == 0 || len(key) > 255 {
			return false
		}
	}
	if n.Leaf {
		long := func(p api.Pair) bool { return len(p.Value) > 255 || len(p.Key+p.Value) > mostOf(size) }
		return len(n.Keys)+len(n.Children) == 0 && rise(keysOf(n)) && !slices.ContainsFunc(n.Pairs, long)
	}
	long := func(key string) bool { return len(key) > mostOf(size) }
	wrong := func(child int) bool { return child <= 0 || child >= 1<<24 }
	return len(n.Pairs) == 0 && rise(n.Keys) && !slices.ContainsFunc(n.Keys, long) && len(n.Children)-len(n.Keys) == 1 && !slices.ContainsFunc(n.Children, wrong)
}

// laid are a node's bytes without any behind them, whether it may be or not, told by the library's writers.
func laid(n api.Node) []byte {
	b := []byte{2}
	if n.Leaf {
		b[0] = 1
	}
	b = binary.BigEndian.AppendUint16(b, uint16(len(keysOf(n))))
	for _, child := range n.Children {
		b = append(b, binary.BigEndian.AppendUint32(nil, uint32(child))[1:]...)
	}
	for _, key := range n.Keys {
		b = append(append(b, byte(len(key))), key...)
	}
	for _, p := range n.Pairs {
		b = append(append(b, byte(len(p.Key))), p.Key...)
		b = append(append(b, byte(len(p.Value))), p.Value...)
	}
	return b
}

// page is b with 00 behind it.
func page(b []byte, size int) []byte { return append(bytes.Clone(b), make([]byte, size-len(b))...) }

// wantOf is what Check has to answer.
func wantOf(n api.Node, size int) api.Errno {
	if size < 64 || size > 4096 || !fits(n, size) {
		return api.ErrArg
	}
	if len(laid(n)) > size {
		return api.ErrLong
	}
	return api.OK
}

// readOf is what P8.2 says: a node is found in the bytes somehow, and counts if these are just the bytes of it.
func readOf(b []byte) (api.Node, bool) {
	r := bytes.NewReader(b)
	var head [3]byte
	r.Read(head[:])
	n := api.Node{Leaf: head[0] == 1}
	count := int(head[1])*256 + int(head[2])
	if count > len(b) { // each pair and each Key has bytes of its own
		return api.Node{}, false
	}
	one := func() int {
		x, _ := r.ReadByte()
		return int(x)
	}
	some := func() string {
		s := make([]byte, one())
		r.Read(s)
		return string(s)
	}
	for range count {
		if n.Leaf {
			key := some()
			n.Pairs = append(n.Pairs, api.Pair{Key: key, Value: some()})
		} else {
			n.Children = append(n.Children, 65536*one()+256*one()+one())
		}
	}
	if !n.Leaf {
		n.Children = append(n.Children, 65536*one()+256*one()+one())
		for range count {
			n.Keys = append(n.Keys, some())
		}
	}
	if wantOf(n, len(b)) != api.OK || !bytes.Equal(page(laid(n), len(b)), b) {
		return api.Node{}, false
	}
	return n, true
}

func alike(a, b api.Node) bool {
	return a.Leaf == b.Leaf && slices.Equal(a.Pairs, b.Pairs) && slices.Equal(a.Keys, b.Keys) && slices.Equal(a.Children, b.Children)
}

func isNought(n api.Node) bool {
	return !n.Leaf && len(n.Pairs)+len(n.Keys)+len(n.Children) == 0
}

// told is short enough to be read.
func told(n api.Node) string {
	s := fmt.Sprintf("{leaf %v, pairs %q, keys %q, children %d}", n.Leaf, n.Pairs, n.Keys, n.Children)
	if len(s) > 300 {
		s = s[:300] + ".."
	}
	return s
}

// want holds Check and Bytes against an error, and the bytes against the node's.
func want(t *testing.T, n api.Node, size int, e api.Errno) {
	t.Helper()
	if got := node.Check(n, size); got != e {
		t.Errorf("Check(%s, %d) = %d; want %d", told(n), size, got, e)
	}
	b, got := node.Bytes(n, size)
	if got != e {
		t.Errorf("Bytes(%s, %d): %d; want %d", told(n), size, got, e)
	}
	if e != api.OK {
		if len(b) != 0 {
			t.Errorf("Bytes(%s, %d) = %x beside %d; want nothing", told(n), size, b, got)
		}
		return
	}
	if whole := page(laid(n), size); !bytes.Equal(b, whole) {
		t.Errorf("Bytes(%s, %d) = %x; want %x", told(n), size, b, whole)
	}
}

func wantRead(t *testing.T, b []byte, n api.Node) {
	t.Helper()
	if got, e := node.Parse(b); !alike(got, n) || e != api.OK {
		t.Errorf("Parse(%x) = %s, %d; want %s", b, told(got), e, told(n))
	}
}

func wantUnread(t *testing.T, b []byte) {
	t.Helper()
	if got, e := node.Parse(b); !isNought(got) || e != api.ErrForm {
		t.Errorf("Parse(%x) = %s, %d; want noughts, ErrForm", b, told(got), e)
	}
}

func wantPlace(t *testing.T, n api.Node, key string, place int, is bool) {
	t.Helper()
	if got, gotIs := node.Place(n, key); got != place || gotIs != is {
		t.Errorf("Place(%s, %q) = %d, %v; want %d, %v", told(n), key, got, gotIs, place, is)
	}
}

// filled has just so many bytes, of pairs or keys that have as many as they may, and a shorter last one. A leaf's pairs have 2 bytes beside their texts, another node's Keys 4 with a Child: where what is left is too little for one more, those ahead of it are shorter.
func filled(isLeaf bool, size, bytesOfPage int) api.Node {
	beside, base, longest := 4, 6, min(mostOf(bytesOfPage), 255)
	if isLeaf {
		beside, base = 2, 3
	}
	left := size - base
	count := (left + beside + longest - 1) / (beside + longest)
	left -= beside * count
	var keys []string
	for k := range count {
		share := (left + count - k - 1) / (count - k)
		left -= share
		keys = append(keys, (fmt.Sprintf("%02x", k) + text(255))[:share])
	}
	if isLeaf {
		return leafOf(keys...)
	}
	return innerOf(keys...)
}

// anyNode makes a node by chance, near the edges of what may be for pages of so many bytes.
func anyNode(chance *rand.Rand, size int) api.Node {
	n := api.Node{Leaf: chance.Intn(2) == 0}
	count := chance.Intn(9)
	if chance.Intn(8) == 0 {
		count = chance.Intn(size / 2)
	}
	var keys []string
	for range count {
		keys = append(keys, anyText(chance, 1, size))
	}
	slices.Sort(keys)
	for _, key := range slices.Compact(keys) {
		if n.Leaf {
			n.Pairs = append(n.Pairs, api.Pair{Key: key, Value: anyText(chance, 0, size-4*len(key))})
		} else {
			n.Keys = append(n.Keys, key)
		}
	}
	for range len(n.Keys) + 1 {
		if !n.Leaf {
			n.Children = append(n.Children, 1+chance.Intn(lastChild))
		}
	}
	if chance.Intn(4) == 0 {
		spoil(chance, &n)
	}
	return n
}

func anyText(chance *rand.Rand, least, size int) string {
	most := 6
	if chance.Intn(8) == 0 {
		most = max(least+1, size/4)
	}
	b := make([]byte, least+chance.Intn(most))
	for k := range b {
		b[k] = "\x00ab\x7f\x80\xff"[chance.Intn(6)]
	}
	return string(b)
}

// spoil makes one thing otherwise, by which the node mostly may not be any more.
func spoil(chance *rand.Rand, n *api.Node) {
	switch chance.Intn(6) {
	case 0:
		n.Leaf = !n.Leaf
	case 1:
		n.Pairs = append(n.Pairs, api.Pair{Key: "b"})
	case 2:
		n.Keys = append(n.Keys, "b")
	case 3:
		n.Children = append(n.Children, 1)
	case 4:
		if len(n.Children) > 0 {
			n.Children[chance.Intn(len(n.Children))] = []int{-1, 0, lastChild + 1}[chance.Intn(3)]
		}
	case 5:
		if len(n.Pairs) > 0 {
			n.Pairs[chance.Intn(len(n.Pairs))].Key = ""
		}
	}
}

// samples may all be for pages of 64 bytes.
func samples() []api.Node {
	return []api.Node{
		leaf(),
		leafOf("a"),
		leaf(api.Pair{Key: "a", Value: "x"}),
		leaf(api.Pair{Key: "a", Value: "x"}, api.Pair{Key: "c"}),
		leaf(api.Pair{Key: "\x00", Value: "\x00\x00"}, api.Pair{Key: "\x00\x00", Value: "\xff"}, api.Pair{Key: "\xff", Value: "\x01\x02"}),
		leaf(api.Pair{Key: "b", Value: "1234567"}, api.Pair{Key: "cdefghij"}, api.Pair{Key: "efgh", Value: "1234"}),
		filled(true, 64, 64),
		filled(true, 63, 64),
		inner([]int{1}),
		inner([]int{lastChild}),
		inner([]int{7, 7}, "a"),
		inner([]int{1, 258, 65536}, "b", "d"),
		inner([]int{lastChild, 1, 65535, 256}, "\x00", "12345678", "\xff\xff"),
		filled(false, 64, 64),
		filled(false, 63, 64),
	}
}

func TestP8_1Most(t *testing.T) {
	for size := 64; size <= 4096; size++ {
		if got, e := node.Most(size); got != mostOf(size) || e != api.OK {
			t.Errorf("Most(%d) = %d, %d; want %d", size, got, e, mostOf(size))
		}
	}
	for size, most := range map[int]int{64: 8, 65: 8, 67: 8, 68: 9, 128: 24, 1052: 255, 4095: 1015, 4096: 1016} {
		if got, e := node.Most(size); got != most || e != api.OK {
			t.Errorf("Most(%d) = %d, %d; want %d", size, got, e, most)
		}
	}
	for _, size := range wrongSizes() {
		if got, e := node.Most(size); got != 0 || e != api.ErrArg {
			t.Errorf("Most(%d) = %d, %d; want 0, ErrArg", size, got, e)
		}
	}
}

// TestP8_1PagesOfOtherBytes: whatever the node, one that is too long among them.
func TestP8_1PagesOfOtherBytes(t *testing.T) {
	nodes := append(samples(), api.Node{}, leafOf("b", "a"), filled(true, 4097, 4096), filled(false, 4097, 4096))
	for _, n := range nodes {
		for _, size := range wrongSizes() {
			want(t, n, size, api.ErrArg)
		}
	}
	for _, n := range samples() {
		for _, size := range pageSizes() {
			want(t, n, size, api.OK)
		}
	}
}

func TestP8_1Examples(t *testing.T) {
	for _, x := range []struct {
		n api.Node
		s string
	}{
		{leaf(), "\x01\x00\x00"},
		{leaf(api.Pair{Key: "a", Value: "x"}), "\x01\x00\x01\x01\x61\x01\x78"},
		{leaf(api.Pair{Key: "ab", Value: "xyz"}, api.Pair{Key: "b"}), "\x01\x00\x02\x02ab\x03xyz\x01b\x00"},
		{inner([]int{7}), "\x02\x00\x00\x00\x00\x07"},
		{inner([]int{66051, 255, lastChild}, "k", "lm"), "\x02\x00\x02\x01\x02\x03\x00\x00\xff\xff\xff\xff\x01k\x02lm"},
	} {
		for _, size := range []int{64, 65, 4096} {
			b, e := node.Bytes(x.n, size)
			if string(b) != x.s+strings.Repeat("\x00", size-len(x.s)) || e != api.OK {
				t.Errorf("Bytes(%s, %d) = %x, %d; want %x and 00", told(x.n), size, b, e, x.s)
			}
			wantRead(t, b, x.n)
		}
		if got := node.Size(x.n); got != len(x.s) {
			t.Errorf("Size(%s) = %d; want %d", told(x.n), got, len(x.s))
		}
	}
}

// TestP8_1CountsOfTwoBytes: as many pairs or Keys as a page holds, so that the higher byte is one, too.
func TestP8_1CountsOfTwoBytes(t *testing.T) {
	for _, count := range []int{255, 256, 257, 600, 681} {
		var keys []string
		for k := range count {
			keys = append(keys, string([]byte{byte(1 + k/256), byte(k)}))
		}
		for _, n := range []api.Node{leafOf(keys...), innerOf(keys...)} {
			want(t, n, 4096, api.OK)
			b, _ := node.Bytes(n, 4096)
			wantRead(t, b, n)
			if len(b) < 3 || int(b[1]) != count/256 || int(b[2]) != count%256 {
				t.Errorf("%d keys: %x", count, b[:min(3, len(b))])
			}
		}
	}
}

func TestP8_1LeafHasPairsAlone(t *testing.T) {
	for _, n := range []api.Node{
		{Leaf: true, Keys: []string{"a"}},
		{Leaf: true, Children: []int{1}},
		{Leaf: true, Keys: []string{"a"}, Children: []int{1, 2}},
		{Leaf: true, Pairs: []api.Pair{{Key: "a"}}, Keys: []string{"a"}},
		{Leaf: true, Pairs: []api.Pair{{Key: "a"}}, Children: []int{1}},
		{Leaf: true, Pairs: []api.Pair{{Key: "a"}}, Children: []int{1, 2}, Keys: []string{"a"}},
	} {
		want(t, n, 64, api.ErrArg)
	}
	want(t, api.Node{Leaf: true}, 64, api.OK)
	want(t, api.Node{Leaf: true, Pairs: []api.Pair{}, Keys: []string{}, Children: []int{}}, 64, api.OK)
	want(t, api.Node{Leaf: true, Pairs: []api.Pair{{Key: "a"}}, Keys: []string{}, Children: []int{}}, 64, api.OK)
}

func TestP8_1OthersHaveNoPairs(t *testing.T) {
	for _, n := range []api.Node{
		{Pairs: []api.Pair{{Key: "a"}}},
		{Pairs: []api.Pair{{}}, Children: []int{1}},
		{Pairs: []api.Pair{{Key: "a"}}, Children: []int{1}},
		{Pairs: []api.Pair{{Key: "a"}}, Children: []int{1, 2}},
		{Pairs: []api.Pair{{Key: "a"}}, Children: []int{1, 2}, Keys: []string{"a"}},
	} {
		want(t, n, 64, api.ErrArg)
	}
	want(t, api.Node{Pairs: []api.Pair{}, Keys: []string{}, Children: []int{1}}, 64, api.OK)
}

func TestP8_1OneChildMore(t *testing.T) {
	for keys := range 5 {
		for children := range 8 {
			n := inner(upFrom(1, children), []string{"a", "b", "c", "d", "e"}[:keys]...)
			e := api.ErrArg
			if children == keys+1 {
				e = api.OK
			}
			want(t, n, 64, e)
		}
	}
}

// TestP8_1KeysRise: of three and four keys each two neighbours are swapped, made alike, and all turned.
func TestP8_1KeysRise(t *testing.T) {
	for _, keys := range [][]string{
		{"a", "b"}, {"a", "aa", "b"}, {"A", "a", "b", "c"}, {"\x00", "\x00\x00", "\x01"}, {"\x7f", "\x80", "\xff", "\xff\x00"}, {"10", "9"}, {"z", "é", "日"},
	} {
		want(t, leafOf(keys...), 64, api.OK)
		want(t, innerOf(keys...), 64, api.OK)
		for i := 1; i < len(keys); i++ {
			swapped, twice := slices.Clone(keys), slices.Clone(keys)
			swapped[i-1], swapped[i] = swapped[i], swapped[i-1]
			twice[i] = twice[i-1]
			for _, wrong := range [][]string{swapped, twice} {
				want(t, leafOf(wrong...), 64, api.ErrArg)
				want(t, innerOf(wrong...), 64, api.ErrArg)
			}
		}
		slices.Reverse(keys)
		want(t, leafOf(keys...), 64, api.ErrArg)
		want(t, innerOf(keys...), 64, api.ErrArg)
	}
}

// TestP8_1ValuesNeedNotRise: nor do Children.
func TestP8_1ValuesNeedNotRise(t *testing.T) {
	want(t, leaf(api.Pair{Key: "a", Value: "z"}, api.Pair{Key: "b", Value: "y"}, api.Pair{Key: "c", Value: "y"}), 64, api.OK)
	want(t, inner([]int{9, 5, 5, 8}, "a", "b", "c"), 64, api.OK)
}

func TestP8_1BytesOfAKey(t *testing.T) {
	for size, e := range map[int]api.Errno{0: api.ErrArg, 1: api.OK, 2: api.OK, 254: api.OK, 255: api.OK, 256: api.ErrArg, 257: api.ErrArg, 511: api.ErrArg, 512: api.ErrArg, 1016: api.ErrArg} {
		key := text(size)
		want(t, leafOf(key), 4096, e)
		want(t, leaf(api.Pair{Key: key, Value: "v"}), 4096, e)
		want(t, leafOf("\x01", "a"+key), 4096, map[bool]api.Errno{true: api.OK, false: api.ErrArg}[size < 255])
		want(t, innerOf(key), 4096, e)
	}
	for _, keys := range [][]string{{""}, {"", "a"}, {"a", ""}, {"a", "", "b"}, {"", ""}} {
		want(t, leafOf(keys...), 64, api.ErrArg)
		want(t, innerOf(keys...), 64, api.ErrArg)
	}
}

func TestP8_1BytesOfAValue(t *testing.T) {
	for size, e := range map[int]api.Errno{0: api.OK, 1: api.OK, 254: api.OK, 255: api.OK, 256: api.ErrArg, 257: api.ErrArg, 512: api.ErrArg, 1015: api.ErrArg, 65536: api.ErrArg} {
		want(t, leaf(api.Pair{Key: "k", Value: text(size)}), 4096, e)
		want(t, leaf(api.Pair{Key: "k"}, api.Pair{Key: "l", Value: text(size)}, api.Pair{Key: "m"}), 4096, e)
	}
}

// TestP8_1BytesOfBoth: a key and a value that have together just Most bytes, and one more, however they are parted.
func TestP8_1BytesOfBoth(t *testing.T) {
	for _, size := range pageSizes() {
		most := mostOf(size)
		for key := 1; key <= min(most, 255); key++ {
			if value := most - key; value <= 255 {
				want(t, leaf(api.Pair{Key: text(key), Value: text(value)}), size, api.OK)
				want(t, leaf(api.Pair{Key: text(key), Value: text(value + 1)}), size, api.ErrArg)
				want(t, leaf(api.Pair{Key: text(key) + "k", Value: text(value)}), size, api.ErrArg)
				want(t, leaf(api.Pair{Key: "a"}, api.Pair{Key: text(key), Value: text(value + 1)}), size, api.ErrArg)
			}
		}
	}
	both := leaf(api.Pair{Key: text(255), Value: text(255)})
	want(t, both, 2071, api.ErrArg)
	want(t, both, 2072, api.OK)
}

func TestP8_1BytesOfAKeyAlone(t *testing.T) {
	for _, size := range pageSizes() {
		most := min(mostOf(size), 255)
		for _, n := range []api.Node{innerOf(text(most)), innerOf("a", text(most)), innerOf(text(most), "l"), leafOf(text(most)), leafOf(text(most), "l")} {
			want(t, n, size, api.OK)
		}
		for _, n := range []api.Node{innerOf(text(most + 1)), innerOf("a", text(most+1)), innerOf(text(most+1), "l"), leafOf(text(most + 1)), leafOf(text(most+1), "l")} {
			want(t, n, size, api.ErrArg)
		}
	}
}

func TestP8_1Children(t *testing.T) {
	for child, e := range map[int]api.Errno{
		math.MinInt: api.ErrArg, math.MinInt32: api.ErrArg, -lastChild: api.ErrArg, -1: api.ErrArg, 0: api.ErrArg,
		1: api.OK, 255: api.OK, 256: api.OK, 65535: api.OK, 65536: api.OK, lastChild - 1: api.OK, lastChild: api.OK,
		lastChild + 1: api.ErrArg, lastChild + 2: api.ErrArg, 1<<32 + 1: api.ErrArg, math.MaxInt: api.ErrArg,
	} {
		want(t, inner([]int{child}), 64, e)
		want(t, inner([]int{child, 5, 6}, "a", "b"), 64, e)
		want(t, inner([]int{4, child, 6}, "a", "b"), 64, e)
		want(t, inner([]int{4, 5, child}, "a", "b"), 64, e)
	}
}

// TestP8_1JustAsManyBytes: a size that is as many bytes as there are may be, one more is too long.
func TestP8_1JustAsManyBytes(t *testing.T) {
	for _, size := range pageSizes() {
		for _, isLeaf := range []bool{true, false} {
			for over := -2; over <= 3; over++ {
				n, e := filled(isLeaf, size+over, size), api.OK
				if over > 0 {
					e = api.ErrLong
				}
				if got := node.Size(n); got != size+over {
					t.Errorf("Size(%s) = %d; want %d", told(n), got, size+over)
				}
				want(t, n, size, e)
			}
		}
	}
}

// TestP8_1TooLongByFar: sizes and counts that two bytes do not tell.
func TestP8_1TooLongByFar(t *testing.T) {
	for _, count := range []int{2000, 65535, 65536, 65537, 70000} {
		var keys []string
		for k := range count {
			keys = append(keys, string([]byte{byte(1 + k>>16), byte(k >> 8), byte(k)}))
		}
		for _, size := range []int{64, 4096} {
			for _, n := range []api.Node{leafOf(keys...), innerOf(keys...)} {
				if e := node.Check(n, size); e != api.ErrLong {
					t.Errorf("%d keys: Check = %d; want ErrLong", count, e)
				}
				if b, e := node.Bytes(n, size); len(b) != 0 || e != api.ErrLong {
					t.Errorf("%d keys: Bytes = %d bytes, %d; want none, ErrLong", count, len(b), e)
				}
			}
		}
	}
}

// TestP8_1WrongAndTooLong: what does not fit is named ahead of the size, wherever it stands.
func TestP8_1WrongAndTooLong(t *testing.T) {
	long := filled(true, 100, 64)
	want(t, long, 64, api.ErrLong)
	for k := range long.Pairs {
		for _, p := range []api.Pair{{}, {Key: "\xff", Value: text(8)}, {Key: text(9)}, {Key: text(256)}, {Key: "k", Value: text(256)}} {
			n := leaf(slices.Clone(long.Pairs)...)
			n.Pairs[k] = p
			want(t, n, 64, api.ErrArg)
		}
	}
	n := leaf(long.Pairs...)
	n.Keys = []string{"a"}
	want(t, n, 64, api.ErrArg)
	n = leaf(long.Pairs...)
	n.Children = []int{1}
	want(t, n, 64, api.ErrArg)

	wide := filled(false, 100, 64)
	want(t, wide, 64, api.ErrLong)
	for k := range wide.Keys {
		for _, key := range []string{"", text(9), text(256)} {
			n := inner(wide.Children, slices.Clone(wide.Keys)...)
			n.Keys[k] = key
			want(t, n, 64, api.ErrArg)
		}
	}
	for k := range wide.Children {
		n := inner(slices.Clone(wide.Children), wide.Keys...)
		n.Children[k] = 0
		want(t, n, 64, api.ErrArg)
	}
	want(t, inner(wide.Children[1:], wide.Keys...), 64, api.ErrArg)
	want(t, inner(append(slices.Clone(wide.Children), 1), wide.Keys...), 64, api.ErrArg)
	want(t, api.Node{Keys: wide.Keys, Children: wide.Children, Pairs: long.Pairs}, 64, api.ErrArg)
}

// TestP8_1SizeOfAnyNode: all lists count, of a leaf and of another one, whether it may be or not.
func TestP8_1SizeOfAnyNode(t *testing.T) {
	pairs := [][]api.Pair{nil, {}, {{}}, {{Key: "a"}}, {{Key: "b", Value: "xy"}, {Key: "a"}}, {{Key: text(255), Value: text(255)}}, {{Key: text(256), Value: text(70000)}}, make([]api.Pair, 5000)}
	keys := [][]string{nil, {}, {""}, {"a", "a"}, {text(255), text(256), text(70000)}, make([]string, 5000)}
	children := [][]int{nil, {}, {0}, {-1, lastChild + 1, math.MaxInt}, make([]int, 5000)}
	for _, p := range pairs {
		for _, k := range keys {
			for _, c := range children {
				size := 3 + 3*len(c)
				for _, x := range p {
					size += 2 + len(x.Key+x.Value)
				}
				for _, x := range k {
					size += 1 + len(x)
				}
				for _, isLeaf := range []bool{true, false} {
					n := api.Node{Leaf: isLeaf, Pairs: p, Keys: k, Children: c}
					if got := node.Size(n); got != size {
						t.Errorf("Size(%s) = %d; want %d", told(n), got, size)
					}
				}
			}
		}
	}
}

// TestP8_1NodesByChance: Size, Check and Bytes are what the chapter's words say, told by the tests' own functions.
func TestP8_1NodesByChance(t *testing.T) {
	chance := rand.New(rand.NewSource(81))
	seen := map[api.Errno]int{}
	for k := range 20000 {
		size := pageSizes()[k%len(pageSizes())]
		n := anyNode(chance, size)
		e := wantOf(n, size)
		seen[e]++
		want(t, n, size, e)
		if e == api.OK && node.Size(n) != len(laid(n)) {
			t.Errorf("Size(%s) = %d; want %d", told(n), node.Size(n), len(laid(n)))
		}
	}
	for _, e := range []api.Errno{api.OK, api.ErrArg, api.ErrLong} {
		if seen[e] < 100 {
			t.Errorf("but %d nodes of error %d", seen[e], e)
		}
	}
}

func TestP8_2OtherNumbersOfBytes(t *testing.T) {
	wantUnread(t, nil)
	wantUnread(t, []byte{})
	for _, n := range []api.Node{leaf(), leafOf("a"), inner([]int{1}), inner([]int{1, 2}, "a")} {
		for size := range 64 {
			wantUnread(t, page(laid(n), 64)[:size])
		}
		for _, size := range pageSizes() {
			wantRead(t, page(laid(n), size), n)
		}
		for _, size := range []int{4097, 4098, 8192, 65536, 1 << 20} {
			if got, e := node.Parse(page(laid(n), size)); !isNought(got) || e != api.ErrForm {
				t.Errorf("Parse of %d bytes = %s, %d; want noughts, ErrForm", size, told(got), e)
			}
		}
	}
	for _, size := range []int{64, 4096} {
		wantUnread(t, make([]byte, size))
		wantUnread(t, bytes.Repeat([]byte{0xff}, size))
		wantUnread(t, bytes.Repeat([]byte{1}, size))
		wantUnread(t, bytes.Repeat([]byte{2}, size))
	}
}

func TestP8_2EachFirstByte(t *testing.T) {
	for _, n := range samples() {
		b := page(laid(n), 64)
		for first := range 256 {
			b[0] = byte(first)
			if got, ok := readOf(b); (first == 1 || first == 2) && ok {
				wantRead(t, b, got)
			} else {
				wantUnread(t, b)
			}
		}
	}
}

// TestP8_2EachCount: but one count is that of the lists that stand there.
func TestP8_2EachCount(t *testing.T) {
	for _, n := range []api.Node{leaf(), leafOf("a", "b"), filled(true, 64, 64), inner([]int{1}), inner([]int{1, 2, 3}, "a", "b"), filled(false, 64, 64)} {
		b := page(laid(n), 64)
		for count := range 65536 {
			b[1], b[2] = byte(count>>8), byte(count)
			if count == len(keysOf(n)) {
				wantRead(t, b, n)
			} else {
				wantUnread(t, b)
			}
		}
	}
}

// TestP8_2BytesThatEndTooSoon: full pages whose last texts tell more bytes than are left, by one and by many, and which end in a Child.
func TestP8_2BytesThatEndTooSoon(t *testing.T) {
	for _, isLeaf := range []bool{true, false} {
		for _, size := range []int{64, 65, 100, 512} {
			for over := 1; over <= 30; over++ {
				wantUnread(t, laid(filled(isLeaf, size+over, size))[:size])
			}
		}
	}
	for _, n := range []api.Node{filled(true, 64, 64), filled(false, 64, 64)} {
		b := laid(n)
		wantRead(t, b, n)
		last := len(b) - 1 - len(keysOf(n)[len(keysOf(n))-1])
		if n.Leaf {
			last-- // the value's byte
		}
		for _, more := range []int{1, 2, 8, 200} {
			wrong := bytes.Clone(b)
			wrong[last] += byte(more)
			wantUnread(t, wrong)
			if n.Leaf {
				wrong = bytes.Clone(b)
				wrong[63] = byte(more)
				wantUnread(t, wrong)
			}
		}
	}
	wantUnread(t, page([]byte{2, 0, 21}, 64))
	wantUnread(t, append([]byte{2, 0, 20}, bytes.Repeat([]byte{1}, 61)...))
	wantUnread(t, append([]byte{2, 255, 255}, bytes.Repeat([]byte{1}, 61)...))
	wantUnread(t, append([]byte{1, 255, 255}, bytes.Repeat([]byte{1}, 61)...))
}

// TestP8_2NoughtsBehind: at every place behind the node, whatever is there.
func TestP8_2NoughtsBehind(t *testing.T) {
	for _, n := range samples() {
		for _, size := range []int{64, 65, 4096} {
			b := page(laid(n), size)
			wantRead(t, b, n)
			for k := len(laid(n)); k < size; k++ {
				for _, x := range []byte{1, 2, 0x80, 0xff} {
					b[k] = x
					if got, e := node.Parse(b); !isNought(got) || e != api.ErrForm {
						t.Errorf("Parse(%s, %02x at %d of %d) = %s, %d", told(n), x, k, size, told(got), e)
					}
				}
				b[k] = 0
			}
		}
	}
}

// TestP8_2NodesThatMayNotBe: their bytes are well formed, yet no node's.
func TestP8_2NodesThatMayNotBe(t *testing.T) {
	for _, n := range []api.Node{
		leafOf(""), leafOf("", "a"), leafOf("a", ""), leafOf("a", "a"), leafOf("b", "a"), leafOf("a", "c", "b"), leafOf("b", "a", "c"), leafOf(text(9)),
		leaf(api.Pair{Key: "a", Value: text(8)}), leaf(api.Pair{Key: text(8), Value: "v"}), leaf(api.Pair{Key: "a"}, api.Pair{Key: "b", Value: text(20)}),
		innerOf(""), innerOf("", "a"), innerOf("a", ""), innerOf("a", "a"), innerOf("b", "a"), innerOf("a", "c", "b"), innerOf("b", "a", "c"), innerOf(text(9)), innerOf("a", text(9)),
		inner([]int{0}), inner([]int{0, 1}, "a"), inner([]int{1, 0}, "a"), inner([]int{1, 0, 1}, "a", "b"),
	} {
		wantUnread(t, page(laid(n), 64))
	}
	for _, size := range pageSizes() {
		most := mostOf(size)
		if most <= 254 {
			wantUnread(t, page(laid(leafOf(text(most+1))), size))
			wantUnread(t, page(laid(innerOf(text(most+1))), size))
			wantRead(t, page(laid(innerOf(text(most))), size), innerOf(text(most)))
		}
		if most <= 509 {
			wantUnread(t, page(laid(leaf(api.Pair{Key: text((most + 2) / 2), Value: text((most + 1) / 2)})), size))
			n := leaf(api.Pair{Key: text((most + 1) / 2), Value: text(most / 2)})
			wantRead(t, page(laid(n), size), n)
		}
	}
}

// TestP8_2EachByteTurned: of a page each byte to each other value, held against the tests' own reader.
func TestP8_2EachByteTurned(t *testing.T) {
	read := 0
	for _, n := range samples() {
		b := page(laid(n), 64)
		for k, was := range b {
			for x := range 256 {
				b[k] = byte(x)
				if got, ok := readOf(b); ok {
					read++
					wantRead(t, b, got)
				} else {
					wantUnread(t, b)
				}
			}
			b[k] = was
		}
	}
	if read < 1000 {
		t.Errorf("but %d of the pages have a node", read)
	}
}

// TestP8_2PagesByChance: nodes' bytes, some of them turned, cut or moved.
func TestP8_2PagesByChance(t *testing.T) {
	chance := rand.New(rand.NewSource(82))
	read, unread := 0, 0
	for k := range 20000 {
		size := pageSizes()[k%len(pageSizes())]
		b := laid(anyNode(chance, size))
		if len(b) > size {
			b = b[:size]
		}
		b = page(b, size)
		for range chance.Intn(3) {
			b[chance.Intn(min(size, 40))] = byte(chance.Intn(256) >> chance.Intn(9))
		}
		if got, ok := readOf(b); ok {
			read++
			wantRead(t, b, got)
		} else {
			unread++
			wantUnread(t, b)
		}
	}
	if read < 1000 || unread < 1000 {
		t.Errorf("%d pages have a node, %d have none", read, unread)
	}
}

func TestP8_3Examples(t *testing.T) {
	wantPlace(t, leafOf("a", "c"), "b", 1, false)
	wantPlace(t, innerOf("b", "d"), "b", 1, true)
}

// TestP8_3EachPlace: below the first key, at each of them, between two, and above the last one.
func TestP8_3EachPlace(t *testing.T) {
	keys := []string{"b", "bb", "d", "f", "\x80"}
	between := []string{"a", "ba", "c", "e", "g", "\xff"}
	for count := range len(keys) + 1 {
		pairs, others := leafOf(keys[:count]...), innerOf(keys[:count]...)
		for place := range count {
			wantPlace(t, pairs, keys[place], place, true)
			wantPlace(t, others, keys[place], place+1, true)
		}
		for place := range count + 1 {
			wantPlace(t, pairs, between[place], place, false)
			wantPlace(t, others, between[place], place, false)
		}
		for place := count; place < len(keys); place++ {
			wantPlace(t, pairs, keys[place], count, false)
			wantPlace(t, others, keys[place], count, false)
		}
		wantPlace(t, pairs, "", 0, false)
		wantPlace(t, others, "", 0, false)
	}
}

func TestP8_3WithoutKeys(t *testing.T) {
	for _, n := range []api.Node{leaf(), {Leaf: true, Pairs: []api.Pair{}}, {}, inner([]int{1}), {Keys: []string{}, Children: []int{1}}} {
		for _, key := range []string{"", "\x00", "a", "\xff", text(300)} {
			wantPlace(t, n, key, 0, false)
		}
	}
}

// TestP8_3Beginnings: a key is below those that it begins, and bytes count, not letters.
func TestP8_3Beginnings(t *testing.T) {
	for _, n := range []api.Node{leafOf("ab"), innerOf("ab")} {
		after := 0
		if !n.Leaf {
			after = 1
		}
		wantPlace(t, n, "a", 0, false)
		wantPlace(t, n, "aB", 0, false)
		wantPlace(t, n, "ab", after, true)
		wantPlace(t, n, "ab\x00", 1, false)
		wantPlace(t, n, "abc", 1, false)
		wantPlace(t, n, "b", 1, false)
		wantPlace(t, n, "\xff", 1, false)
	}
}

// TestP8_3TheKindTells: a leaf's pairs alone, and another node's Keys alone, even of one that has the others' lists, too.
func TestP8_3TheKindTells(t *testing.T) {
	n := api.Node{Leaf: true, Pairs: []api.Pair{{Key: "c", Value: "a"}}, Keys: []string{"a", "b"}, Children: []int{1, 2, 3}}
	wantPlace(t, n, "b", 0, false)
	wantPlace(t, n, "c", 0, true)
	wantPlace(t, n, "d", 1, false)
	n.Leaf = false
	wantPlace(t, n, "b", 2, true)
	wantPlace(t, n, "c", 2, false)
	wantPlace(t, n, "A", 0, false)
}

// TestP8_3KeysThatDoNotRise: the words hold of any node: the first pair that is not below, and how many Keys are not above.
func TestP8_3KeysThatDoNotRise(t *testing.T) {
	n := leafOf("d", "b", "b", "c")
	wantPlace(t, n, "b", 0, false)
	wantPlace(t, n, "d", 0, true)
	wantPlace(t, n, "e", 4, false)
	wantPlace(t, leafOf("a", "b", "a", "b", "c"), "b", 1, true)
	wantPlace(t, leafOf("a", ""), "", 0, false)
	wantPlace(t, leafOf("", "a"), "", 0, true)
	n = innerOf("d", "b", "b", "c")
	wantPlace(t, n, "a", 0, false)
	wantPlace(t, n, "b", 2, true)
	wantPlace(t, n, "c", 3, true)
	wantPlace(t, n, "cc", 3, false)
	wantPlace(t, n, "d", 4, true)
	wantPlace(t, innerOf("b", ""), "", 1, true)
}

// TestP8_3ByChance: where keys rise, what stands ahead of the place is below the key, or not above it, and what stands behind is not.
func TestP8_3ByChance(t *testing.T) {
	chance := rand.New(rand.NewSource(83))
	for range 5000 {
		n := anyNode(chance, 512)
		keys := keysOf(n)
		if !rise(keys) {
			continue
		}
		key := anyText(chance, 0, 64)
		if len(keys) > 0 && chance.Intn(2) == 0 {
			key = keys[chance.Intn(len(keys))]
		}
		place := 0
		for place < len(keys) && (keys[place] < key || !n.Leaf && keys[place] == key) {
			place++
		}
		wantPlace(t, n, key, place, slices.Contains(keys, key))
	}
}

func TestP8_4LaidDownAndRead(t *testing.T) {
	chance := rand.New(rand.NewSource(84))
	done := 0
	for k := range 10000 {
		size := pageSizes()[k%len(pageSizes())]
		n := anyNode(chance, size)
		b, e := node.Bytes(n, size)
		if e != api.OK {
			continue
		}
		done++
		wantRead(t, b, n)
	}
	for _, n := range samples() {
		for _, size := range pageSizes() {
			b, _ := node.Bytes(n, size)
			wantRead(t, b, n)
		}
	}
	for _, size := range pageSizes() {
		for _, n := range []api.Node{filled(true, size, size), filled(false, size, size), filled(true, size-1, size), filled(false, size-1, size)} {
			b, e := node.Bytes(n, size)
			if e != api.OK {
				t.Errorf("Bytes(%s, %d): %d", told(n), size, e)
			}
			wantRead(t, b, n)
		}
	}
	if done < 1000 {
		t.Errorf("but %d nodes were laid down", done)
	}
}

func TestP8_4ReadAndLaidDown(t *testing.T) {
	chance := rand.New(rand.NewSource(85))
	done := 0
	for k := range 20000 {
		size := pageSizes()[k%len(pageSizes())]
		b := laid(anyNode(chance, size))
		b = page(b[:min(len(b), size)], size)
		b[chance.Intn(min(size, 40))] = byte(chance.Intn(256) >> chance.Intn(9))
		given := bytes.Clone(b)
		n, e := node.Parse(b)
		if e != api.OK {
			continue
		}
		done++
		if got, e := node.Bytes(n, size); !bytes.Equal(got, given) || e != api.OK {
			t.Errorf("Parse(%x) is laid down as %x, %d", given, got, e)
		}
	}
	if done < 1000 {
		t.Errorf("but %d pages were read", done)
	}
}

// roomy is a node like n whose lists have spare room, with something in it.
func roomy(n api.Node) api.Node {
	return api.Node{
		Leaf:     n.Leaf,
		Pairs:    append(slices.Clone(n.Pairs), api.Pair{Key: "spare", Value: "room"}, api.Pair{Key: "more"})[:len(n.Pairs)],
		Keys:     append(slices.Clone(n.Keys), "spare", "room")[:len(n.Keys)],
		Children: append(slices.Clone(n.Children), 77, 78)[:len(n.Children)],
	}
}

// whole is n with its lists' spare room.
func whole(n api.Node) api.Node {
	return api.Node{Leaf: n.Leaf, Pairs: n.Pairs[:cap(n.Pairs)], Keys: n.Keys[:cap(n.Keys)], Children: n.Children[:cap(n.Children)]}
}

func cloned(n api.Node) api.Node {
	return api.Node{Leaf: n.Leaf, Pairs: slices.Clone(n.Pairs), Keys: slices.Clone(n.Keys), Children: slices.Clone(n.Children)}
}

// scribble writes over all that a node's lists have room for.
func scribble(n api.Node) {
	n = whole(n)
	for k := range n.Pairs {
		n.Pairs[k] = api.Pair{Key: "written", Value: "over"}
	}
	for k := range n.Keys {
		n.Keys[k] = "written"
	}
	for k := range n.Children {
		n.Children[k] = -7
	}
}

// TestR2WhatIsGivenIsLeft: neither lists nor the room behind them are written into, whether the node may be or not.
func TestR2WhatIsGivenIsLeft(t *testing.T) {
	chance := rand.New(rand.NewSource(86))
	nodes := samples()
	for range 500 {
		nodes = append(nodes, anyNode(chance, 64))
	}
	for _, n := range nodes {
		given := roomy(n)
		before := cloned(whole(given))
		for _, size := range []int{63, 64, 512} {
			node.Check(given, size)
			node.Bytes(given, size)
		}
		node.Size(given)
		node.Place(given, "b")
		if !alike(whole(given), before) {
			t.Errorf("%s is written into: %s; was %s", told(n), told(whole(given)), told(before))
		}
		room := append(page(laid(n), max(64, len(laid(n)))), bytes.Repeat([]byte{0xcc}, 64)...)
		was := bytes.Clone(room)
		node.Parse(room[:len(room)-64])
		if !bytes.Equal(room, was) {
			t.Errorf("%s: its bytes are written into: %x; were %x", told(n), room, was)
		}
	}
}

// TestR2WhatIsGivenIsNotKept: what is done with it later on is not seen in an answer, nor the room behind it in one.
func TestR2WhatIsGivenIsNotKept(t *testing.T) {
	for _, n := range samples() {
		given := roomy(n)
		b, _ := node.Bytes(given, 64)
		scribble(given)
		if !bytes.Equal(b, page(laid(n), 64)) {
			t.Errorf("%s: a change of it is seen in its bytes: %x", told(n), b)
		}
		room := append(page(laid(n), 64), bytes.Repeat([]byte{0xcc}, 64)...)
		got, e := node.Parse(room[:64])
		for k := range room {
			room[k] = 0x55
		}
		if !alike(got, n) || e != api.OK {
			t.Errorf("%s: a change of its bytes is seen: %s, %d", told(n), told(got), e)
		}
	}
}

// TestR2WhatComesOutIsNew: it shares no memory with what was given, nor with another answer.
func TestR2WhatComesOutIsNew(t *testing.T) {
	for _, n := range samples() {
		given := roomy(n)
		one, _ := node.Bytes(given, 64)
		other, _ := node.Bytes(given, 64)
		one = one[:cap(one)]
		for k := range one {
			one[k] = 0x55
		}
		if b := page(laid(n), 64); !alike(given, n) || !bytes.Equal(other, b) {
			t.Errorf("%s: a change of its bytes is seen: %s, %x", told(n), told(given), other)
		}
		b := page(laid(n), 64)
		first, _ := node.Parse(b)
		second, _ := node.Parse(b)
		scribble(first)
		if !alike(second, n) || !bytes.Equal(b, page(laid(n), 64)) {
			t.Errorf("%s: a change of what was read is seen: %s, %x", told(n), told(second), b)
		}
		wantRead(t, b, n)
	}
}

// TestR2CallsHangOnTheirArgumentsAlone: whatever was called between.
func TestR2CallsHangOnTheirArgumentsAlone(t *testing.T) {
	for range 3 {
		for _, n := range samples() {
			want(t, n, 64, api.OK)
			want(t, n, 63, api.ErrArg)
			wantRead(t, page(laid(n), 64), n)
			wantUnread(t, page(laid(n), 64)[:63])
		}
		want(t, filled(true, 65, 64), 64, api.ErrLong)
		want(t, leafOf("b", "a"), 64, api.ErrArg)
	}
}
