package inode_test

import (
	"encoding/binary"
	"fmt"
	"math"
	"math/rand"
	"slices"
	"strings"
	"testing"
	"unsafe"

	"chandlery/api"
	"chandlery/inode"
)

// wrongKinds are none, some of which would be one if a byte of them alone counted.
func wrongKinds() []int {
	return []int{0, 4, 5, 10, 255, 256, 257, 258, 259, -1, -2, -3, -253, -254, -255, 1<<32 + 1, 1<<32 + 2, 1<<32 + 3, math.MaxInt32, math.MinInt32, math.MaxInt, math.MinInt, math.MinInt + 1}
}

// links are where a byte's edge is, of what two bytes hold.
func links() []int {
	return []int{1, 2, 127, 128, 254, 255, 256, 257, 258, 511, 512, 32767, 32768, 65279, 65280, 65534, 65535}
}

func wrongLinks() []int {
	return []int{0, -1, -2, -255, -65534, -65535, -65536, 65536, 65537, 1<<17 - 1, 1 << 17, 1<<24 + 1, 1<<32 + 1, math.MaxInt32, math.MinInt32, math.MaxInt, math.MinInt, math.MinInt + 1}
}

// sizes are those of a file.
func sizes() []int {
	return []int{0, 1, 2, 255, 256, 257, 258, 511, 512, 4096, 32767, 32768, 65279, 65280, 65534, 65535, 65536}
}

func wrongSizes() []int {
	return []int{-1, -2, -256, -65535, -65536, -65537, 65537, 65538, 65792, 131071, 131072, last, last + 1, last + 2, 1<<24 + 256, 1 << 32, 1<<32 + 1, math.MaxInt32, math.MinInt32, math.MaxInt, math.MinInt, math.MinInt + 1}
}

// datas are what links say.
func datas() []string {
	l := []string{"a", "/", "//", "\x00", "\x01", "\xff", ".", "..", "../a", "a/b", "a\x00b", " ", "é", "\xc3", "\x01\x01\x00\x02\x00\x01\x02", strings.Repeat("\x00", 40), strings.Repeat("\xff", 40), strings.Repeat("é", 20)}
	for size := 2; size <= 40; size++ {
		l = append(l, strings.Repeat("d", size))
	}
	return l
}

// wrongDatas have a byte too much, or more.
func wrongDatas() []string {
	var l []string
	for _, size := range []int{41, 42, 47, 48, 64, 128, 255, 256, 257, 296, 65536, 65537} {
		l = append(l, strings.Repeat("d", size), strings.Repeat("\x00", size))
	}
	return append(l, strings.Repeat("é", 21))
}

// fits tells what the chapter says of which inode may be.
func fits(i api.Inode) bool {
	if i.Links < 1 || i.Links > 65535 {
		return false
	}
	if i.Kind == 1 {
		return i.Size >= 0 && i.Size <= 65536 && i.Data == ""
	}
	if i.Exec || i.Size != 0 {
		return false
	}
	return i.Kind == 2 && i.Data == "" || i.Kind == 3 && i.Data != "" && len(i.Data) < 41
}

func three(n int) string { return string(binary.BigEndian.AppendUint32(nil, uint32(n))[1:]) }

// laid are the bytes of an inode that may be.
func laid(i api.Inode) string {
	s := string([]byte{byte(i.Kind)}) + "\x00"
	if i.Exec {
		s = s[:1] + "\x01"
	}
	return s + string(binary.BigEndian.AppendUint16(nil, uint16(i.Links))) + three(i.Size) + i.Data
}

// readOf seeks the inode that may be and has these bytes.
func readOf(s string) (api.Inode, bool) {
	if len(s) < 7 {
		return api.Inode{}, false
	}
	links := int(binary.BigEndian.Uint16([]byte(s[2:4])))
	size := int(binary.BigEndian.Uint32([]byte("\x00" + s[4:7])))
	for kind := range 4 {
		for _, exec := range []bool{false, true} {
			i := api.Inode{Kind: kind, Exec: exec, Links: links, Size: size, Data: s[7:]}
			if fits(i) && laid(i) == s {
				return i, true
			}
		}
	}
	return api.Inode{}, false
}

// told is short enough to be read.
func told(i api.Inode) string {
	return fmt.Sprintf("{kind %d, exec %v, links %d, size %d, data %.50q}", i.Kind, i.Exec, i.Links, i.Size, i.Data)
}

func wantBytes(t *testing.T, i api.Inode, s string, e api.Errno) {
	t.Helper()
	if got := inode.Check(i); got != e {
		t.Errorf("Check(%s) = %d; want %d", told(i), got, e)
	}
	if got, f := inode.Bytes(i); got != s || f != e {
		t.Errorf("Bytes(%s) = %.99q, %d; want %.99q, %d", told(i), got, f, s, e)
	}
}

func wantRight(t *testing.T, i api.Inode) {
	t.Helper()
	wantBytes(t, i, laid(i), api.OK)
}

func wantWrong(t *testing.T, i api.Inode) {
	t.Helper()
	wantBytes(t, i, "", api.ErrArg)
}

// want holds Check and Bytes of an inode against the chapter's words.
func want(t *testing.T, i api.Inode) {
	t.Helper()
	if fits(i) {
		wantRight(t, i)
	} else {
		wantWrong(t, i)
	}
}

func wantRead(t *testing.T, s string, i api.Inode) {
	t.Helper()
	if got, e := inode.Parse(s); got != i || e != api.OK {
		t.Errorf("Parse(%.99q) = %s, %d; want %s", s, told(got), e, told(i))
	}
}

func wantUnread(t *testing.T, s string) {
	t.Helper()
	if got, e := inode.Parse(s); got != (api.Inode{}) || e != api.ErrForm {
		t.Errorf("Parse(%.99q) = %s, %d; want noughts, ErrForm", s, told(got), e)
	}
}

// wantReadOrNot holds Parse against the chapter's words.
func wantReadOrNot(t *testing.T, s string) {
	t.Helper()
	if i, is := readOf(s); is {
		wantRead(t, s, i)
	} else {
		wantUnread(t, s)
	}
}

// samples are inodes that may be, of each kind and each edge.
func samples() []api.Inode {
	var l []api.Inode
	for _, n := range links() {
		for _, size := range sizes() {
			l = append(l, api.Inode{Kind: 1, Links: n, Size: size}, api.Inode{Kind: 1, Exec: true, Links: n, Size: size})
		}
		l = append(l, api.Inode{Kind: 2, Links: n})
		for _, data := range datas() {
			l = append(l, api.Inode{Kind: 3, Links: n, Data: data})
		}
	}
	return l
}

// few are inodes that may be, as many as can be held against one another, or changed byte by byte.
func few() []api.Inode {
	var l []api.Inode
	for _, n := range []int{1, 2, 255, 256, 65535} {
		for _, size := range []int{0, 1, 258, 65535, 65536} {
			l = append(l, api.Inode{Kind: 1, Links: n, Size: size}, api.Inode{Kind: 1, Exec: true, Links: n, Size: size})
		}
		l = append(l, api.Inode{Kind: 2, Links: n})
		for _, data := range []string{"a", "\x00", "a/b", strings.Repeat("d", 39), strings.Repeat("d", 40)} {
			l = append(l, api.Inode{Kind: 3, Links: n, Data: data})
		}
	}
	return l
}

// wrong are inodes that may not be, one of each kind of fault.
func wrong() []api.Inode {
	return []api.Inode{
		{}, {Links: 1}, {Kind: 4, Links: 1}, {Kind: -1, Links: 1}, {Kind: 257, Links: 1},
		{Kind: 1}, {Kind: 2}, {Kind: 3, Data: "a"}, {Kind: 1, Links: -1}, {Kind: 2, Links: 65536}, {Kind: 3, Links: 65537, Data: "a"},
		{Kind: 1, Links: 1, Size: -1}, {Kind: 1, Links: 1, Size: 65537}, {Kind: 1, Links: 1, Size: 1 << 24}, {Kind: 1, Links: 1, Data: "a"},
		{Kind: 2, Links: 1, Exec: true}, {Kind: 2, Links: 1, Size: 1}, {Kind: 2, Links: 1, Size: 1 << 24}, {Kind: 2, Links: 1, Data: "a"},
		{Kind: 3, Links: 1}, {Kind: 3, Links: 1, Data: strings.Repeat("d", 41)}, {Kind: 3, Links: 1, Exec: true, Data: "a"}, {Kind: 3, Links: 1, Size: 1, Data: "a"},
	}
}

func TestP12_1Examples(t *testing.T) {
	for _, x := range []struct {
		i api.Inode
		s string
	}{
		{api.Inode{Kind: api.File, Exec: true, Links: 2, Size: 258}, "\x01\x01\x00\x02\x00\x01\x02"},
		{api.Inode{Kind: api.File, Links: 1}, "\x01\x00\x00\x01\x00\x00\x00"},
		{api.Inode{Kind: api.File, Links: 65535, Size: 65536}, "\x01\x00\xff\xff\x01\x00\x00"},
		{api.Inode{Kind: api.File, Exec: true, Links: 256, Size: 65535}, "\x01\x01\x01\x00\x00\xff\xff"},
		{api.Inode{Kind: api.Dir, Links: 1}, "\x02\x00\x00\x01\x00\x00\x00"},
		{api.Inode{Kind: api.Dir, Links: 65535}, "\x02\x00\xff\xff\x00\x00\x00"},
		{api.Inode{Kind: api.Link, Links: 258, Data: "a"}, "\x03\x00\x01\x02\x00\x00\x00a"},
		{api.Inode{Kind: api.Link, Links: 1, Data: "../b"}, "\x03\x00\x00\x01\x00\x00\x00../b"},
		{api.Inode{Kind: api.Link, Links: 1, Data: strings.Repeat("d", 40)}, "\x03\x00\x00\x01\x00\x00\x00" + strings.Repeat("d", 40)},
	} {
		wantBytes(t, x.i, x.s, api.OK)
		wantRead(t, x.s, x.i)
	}
}

// TestP12_1AllThatMayBe: of each kind, with all edges of its fields.
func TestP12_1AllThatMayBe(t *testing.T) {
	for _, i := range samples() {
		wantRight(t, i)
	}
}

func TestP12_1Kinds(t *testing.T) {
	for _, kind := range wrongKinds() {
		wantWrong(t, api.Inode{Kind: kind})
		wantWrong(t, api.Inode{Kind: kind, Links: 1})
		for _, i := range few() {
			i.Kind = kind
			wantWrong(t, i)
		}
	}
	for kind := range 3 { // each inode as one of each other kind
		for _, i := range few() {
			i.Kind = kind + 1
			want(t, i)
		}
	}
	wantWrong(t, api.Inode{})
}

func TestP12_1Links(t *testing.T) {
	for _, i := range few() {
		for _, n := range links() {
			i.Links = n
			wantRight(t, i)
		}
		for _, n := range wrongLinks() {
			i.Links = n
			wantWrong(t, i)
		}
	}
	for n := range 65538 {
		if e := inode.Check(api.Inode{Kind: 2, Links: n}); (e == api.OK) != (n >= 1 && n <= 65535) {
			t.Errorf("Check with %d links = %d", n, e)
		}
	}
}

func TestP12_1Sizes(t *testing.T) {
	for _, exec := range []bool{false, true} {
		for _, n := range links() {
			for _, size := range sizes() {
				wantRight(t, api.Inode{Kind: 1, Exec: exec, Links: n, Size: size})
			}
			for _, size := range wrongSizes() {
				wantWrong(t, api.Inode{Kind: 1, Exec: exec, Links: n, Size: size})
			}
		}
		for size := range 65540 {
			if e := inode.Check(api.Inode{Kind: 1, Exec: exec, Links: 1, Size: size}); (e == api.OK) != (size <= 65536) {
				t.Errorf("Check with a size of %d = %d", size, e)
			}
		}
	}
}

// TestP12_1Data: what a link says, at each length, and of each byte.
func TestP12_1Data(t *testing.T) {
	for _, n := range links() {
		for _, data := range datas() {
			wantRight(t, api.Inode{Kind: 3, Links: n, Data: data})
		}
		for _, data := range wrongDatas() {
			wantWrong(t, api.Inode{Kind: 3, Links: n, Data: data})
		}
		wantWrong(t, api.Inode{Kind: 3, Links: n})
	}
	for size := range 300 {
		i := api.Inode{Kind: 3, Links: 1, Data: strings.Repeat("z", size)}
		if e := inode.Check(i); (e == api.OK) != (size >= 1 && size <= 40) {
			t.Errorf("Check of a link of %d bytes = %d", size, e)
		}
		want(t, i)
	}
	for c := range 256 {
		one := string([]byte{byte(c)})
		for _, data := range []string{one, one + one, one + "a", "a" + one, strings.Repeat("a", 39) + one, one + strings.Repeat("a", 39)} {
			wantRight(t, api.Inode{Kind: 3, Links: 1, Data: data})
		}
		wantWrong(t, api.Inode{Kind: 3, Links: 1, Data: strings.Repeat("a", 40) + one})
	}
}

// TestP12_1FieldsThatAKindHasNot: each of them, for each kind, whatever is in it.
func TestP12_1FieldsThatAKindHasNot(t *testing.T) {
	for _, n := range links() {
		file, dir, link := api.Inode{Kind: 1, Links: n, Size: 9}, api.Inode{Kind: 2, Links: n}, api.Inode{Kind: 3, Links: n, Data: "ab"}
		for _, i := range []api.Inode{file, dir, link} {
			wantRight(t, i)
			i.Exec = true
			want(t, i)
			if i.Kind != 1 {
				wantWrong(t, i)
			}
		}
		for _, data := range append(datas(), wrongDatas()...) {
			file.Data, dir.Data = data, data
			wantWrong(t, file)
			wantWrong(t, dir)
			wantWrong(t, api.Inode{Kind: 1, Exec: true, Links: n, Data: data})
		}
		dir.Data = ""
		for _, size := range append(sizes(), wrongSizes()...) {
			if size != 0 {
				dir.Size, link.Size = size, size
				wantWrong(t, dir)
				wantWrong(t, link)
			}
		}
		wantWrong(t, api.Inode{Kind: 2, Links: n, Exec: true, Size: 1, Data: "a"})
		wantWrong(t, api.Inode{Kind: 3, Links: n, Exec: true, Size: 1, Data: "a"})
		wantWrong(t, api.Inode{Kind: 3, Links: n, Size: 1})
	}
	for _, i := range wrong() {
		wantWrong(t, i)
	}
}

// TestP12_1ByChance: inodes whose fields are each as they may be, or not.
func TestP12_1ByChance(t *testing.T) {
	chance := rand.New(rand.NewSource(121))
	pick := func(right, wrong []int) int {
		if chance.Intn(8) == 0 {
			right = wrong
		}
		return right[chance.Intn(len(right))]
	}
	texts := slices.Concat(datas(), wrongDatas()[:8])
	rights := 0
	for range 60000 {
		i := api.Inode{Kind: pick([]int{1, 2, 3}, wrongKinds()), Exec: chance.Intn(4) == 0, Links: pick(links(), wrongLinks())}
		if chance.Intn(3) == 0 {
			i.Size = pick(sizes(), wrongSizes())
		}
		if chance.Intn(3) == 0 {
			i.Data = texts[chance.Intn(len(texts))]
		}
		want(t, i)
		if fits(i) {
			rights++
		}
	}
	if rights < 1000 || rights > 59000 {
		t.Errorf("%d inodes of 60000 may be", rights)
	}
}

// TestP12_1ParseNone: no byte, and as many as are too few, whatever they are.
func TestP12_1ParseNone(t *testing.T) {
	wantUnread(t, "")
	for size := range 7 {
		for c := range 256 {
			wantUnread(t, strings.Repeat(string([]byte{byte(c)}), size))
		}
	}
	for size := range 400 {
		wantUnread(t, strings.Repeat("\x00", size))
		wantUnread(t, strings.Repeat("\xff", size))
		wantReadOrNot(t, strings.Repeat("\x01", size))
		wantReadOrNot(t, strings.Repeat("\x03", size))
	}
	for _, i := range wrong() { // what would be the bytes of inodes that may not be
		if i.Links >= 0 && i.Links < 65536 && i.Size >= 0 && i.Size <= last && i.Kind >= 0 && i.Kind < 256 {
			wantUnread(t, laid(i))
		}
	}
}

// TestP12_1ParseLessAndMore: each inode's bytes with some less at either end, and some more.
func TestP12_1ParseLessAndMore(t *testing.T) {
	for _, i := range samples() {
		s := laid(i)
		wantRead(t, s, i)
		wantReadOrNot(t, s[:len(s)-1])
		wantReadOrNot(t, s[1:])
		if i.Kind != 3 {
			wantUnread(t, s[:len(s)-1])
		}
		for _, more := range []string{"\x00", "a", "\xff", "\x00\x00", s, strings.Repeat("\x00", 40), strings.Repeat("\x00", 57)} {
			wantReadOrNot(t, s+more)
			wantReadOrNot(t, more+s)
			if i.Kind != 3 {
				wantUnread(t, s+more)
			}
		}
	}
	for _, i := range few() {
		s := laid(i)
		for size := range len(s) {
			wantReadOrNot(t, s[:size])
			wantReadOrNot(t, s[size:])
		}
	}
	forty := laid(api.Inode{Kind: 3, Links: 1, Data: strings.Repeat("d", 40)})
	wantUnread(t, forty+"d")
	wantUnread(t, forty+"\x00")
	wantUnread(t, laid(api.Inode{Kind: 3, Links: 1}))
}

// TestP12_1ParseChanged: each byte of an inode's bytes, turned to each value; and two of them.
func TestP12_1ParseChanged(t *testing.T) {
	read := 0
	for _, i := range few() {
		s := laid(i)
		for at := range len(s) {
			for c := range 256 {
				changed := s[:at] + string([]byte{byte(c)}) + s[at+1:]
				wantReadOrNot(t, changed)
				if _, is := readOf(changed); is && changed != s {
					read++
				}
			}
		}
	}
	if read < 10000 {
		t.Errorf("but %d are read", read)
	}
	chance := rand.New(rand.NewSource(122))
	for _, i := range few() {
		for range 200 {
			b := []byte(laid(i))
			b[chance.Intn(len(b))] = byte(chance.Intn(5))
			b[chance.Intn(len(b))] = byte(chance.Intn(256))
			wantReadOrNot(t, string(b))
		}
	}
}

// TestP12_1ParseByChance: bytes of which few are far from an inode's.
func TestP12_1ParseByChance(t *testing.T) {
	chance := rand.New(rand.NewSource(123))
	reads := 0
	for range 60000 {
		b := make([]byte, 4+chance.Intn(46))
		if chance.Intn(2) == 0 {
			b = b[:min(len(b), 7)]
		}
		for at := range b {
			most := []int{4, 3, 256, 256, 2, 256, 256}
			if b[at] = byte(chance.Intn(256)); at < 7 {
				b[at] = byte(chance.Intn(most[at]))
			}
			if chance.Intn(2) == 0 && (at == 1 || at >= 4 && at < 7) {
				b[at] = 0
			}
		}
		wantReadOrNot(t, string(b))
		if _, is := readOf(string(b)); is {
			reads++
		}
	}
	if reads < 1000 {
		t.Errorf("but %d are read", reads)
	}
}

// TestP12_3LaidAndRead: each inode is read as itself, each text that is read is laid down as itself, and no two inodes have the same bytes.
func TestP12_3LaidAndRead(t *testing.T) {
	of := map[string]api.Inode{}
	for _, i := range samples() {
		s, e := inode.Bytes(i)
		if other, is := of[s]; is || e != api.OK {
			t.Errorf("%s has the bytes %.99q, %d, as has %s", told(i), s, e, told(other))
		}
		of[s] = i
		wantRead(t, s, i)
	}
	for _, i := range few() {
		s := laid(i)
		for at := range len(s) {
			for c := range 256 {
				changed := s[:at] + string([]byte{byte(c)}) + s[at+1:]
				if got, e := inode.Parse(changed); e == api.OK {
					wantBytes(t, got, changed, api.OK)
				}
			}
		}
	}
}

// TestR1LongTexts: the calls end, and with the error nothing else is told.
func TestR1LongTexts(t *testing.T) {
	long := strings.Repeat("\x03", 1<<24)
	for _, kind := range append([]int{1, 2, 3}, wrongKinds()...) {
		wantWrong(t, api.Inode{Kind: kind, Links: 1, Data: long})
	}
	wantUnread(t, long)
	wantUnread(t, laid(api.Inode{Kind: 3, Links: 1, Data: long}))
}

// TestR2WhatIsGivenIsNotKept: the bytes of the text that was handed in are as they were, and are written over then, which is not seen in an answer.
func TestR2WhatIsGivenIsNotKept(t *testing.T) {
	for _, i := range append(few(), api.Inode{Kind: 2, Links: 1, Data: "ab"}, api.Inode{Kind: 3, Links: 1, Data: strings.Repeat("d", 41)}) {
		room := []byte(i.Data + strings.Repeat("\xcc", 64))
		was := string(room)
		given := i
		given.Data = unsafe.String(&room[0], len(i.Data))
		inode.Check(given)
		s, _ := inode.Bytes(given)
		if string(room) != was {
			t.Errorf("%s is written into: %q; was %q", told(i), room, was)
		}
		for at := range room {
			room[at] = 'X'
		}
		if fits(i) && s != laid(i) || !fits(i) && s != "" {
			t.Errorf("%s: a change of its text is seen: %q", told(i), s)
		}
	}
	for _, i := range few() {
		s := laid(i)
		room := []byte(s + strings.Repeat("\xcc", 64))
		got, e := inode.Parse(unsafe.String(&room[0], len(s)))
		if string(room) != s+strings.Repeat("\xcc", 64) {
			t.Errorf("%q is written into: %q", s, room)
		}
		for at := range room {
			room[at] = 'X'
		}
		if got != i || e != api.OK {
			t.Errorf("a change of %q is seen: %s, %d", s, told(got), e)
		}
	}
}

// scribble writes over a text of more than one byte. (One of one byte may be shared.)
func scribble(s string) {
	if len(s) > 1 {
		b := unsafe.Slice(unsafe.StringData(s), len(s))
		for at := range b {
			b[at] = 0x55
		}
	}
}

// TestR2WhatComesOutIsNew: it shares no memory with what was given, nor with another answer.
func TestR2WhatComesOutIsNew(t *testing.T) {
	for _, i := range few() {
		given := i
		given.Data = strings.Clone(i.Data)
		one, _ := inode.Bytes(given)
		other, _ := inode.Bytes(given)
		scribble(one)
		if given != i || other != laid(i) {
			t.Errorf("%s: a change of its bytes is seen: %s, %q", told(i), told(given), other)
		}
		s := strings.Clone(laid(i))
		got, _ := inode.Parse(s)
		again, _ := inode.Parse(s)
		scribble(got.Data)
		if again != i || s != laid(i) {
			t.Errorf("%s: a change of its Data is seen: %s, %q", told(i), told(again), s)
		}
	}
}

// TestR2CallsHangOnTheirArgumentsAlone: whatever was called between.
func TestR2CallsHangOnTheirArgumentsAlone(t *testing.T) {
	for range 3 {
		for _, i := range few() {
			want(t, i)
			wantRead(t, laid(i), i)
			wrong := i
			wrong.Links += 65536
			wantWrong(t, wrong)
			wantUnread(t, laid(i)[:6])
		}
	}
}
