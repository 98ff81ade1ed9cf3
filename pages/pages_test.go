package pages_test

import (
	"bytes"
	"maps"
	"math"
	"math/rand"
	"slices"
	"testing"

	"chandlery/api"
	"chandlery/disk"
	"chandlery/pages"
	"chandlery/wal"
)

// image is what all blocks of a wal have.
type image [][]byte

func (m image) equal(o image) bool { return slices.EqualFunc(m, o, bytes.Equal) }

func (m image) size() int { return len(m[0]) }

// mapBlocks is the chapter's M: so many blocks are the map's, and this one is the root's.
func (m image) mapBlocks() int {
	count := 0
	for count*8*m.size() < len(m) {
		count++
	}
	return count
}

func (m image) isPage(page int) bool { return page > m.mapBlocks() && page < len(m) }

func (m image) used(page int) bool {
	at := page / 8
	return m[at/m.size()][at%m.size()]>>(page%8)&1 == 1
}

func (m image) free() int {
	count := 0
	for page := range m {
		if m.isPage(page) && !m.used(page) {
			count++
		}
	}
	return count
}

func (m image) root() int {
	b := m[m.mapBlocks()]
	return int(b[0]) + 256*int(b[1]) + 65536*int(b[2]) + 16777216*int(b[3])
}

// blank is an image that is all 00.
func blank(blocks, size int) image {
	m := image{}
	for range blocks {
		m = append(m, make([]byte, size))
	}
	return m
}

// with is an image whose blocks have bytes of their own, this root, and these pages used.
func with(blocks, size, root int, used ...int) image {
	m := blank(blocks, size)
	for block := range m {
		if m.isPage(block) {
			m[block] = content(block, size)
		}
	}
	b := m[m.mapBlocks()]
	b[0], b[1], b[2], b[3] = byte(root), byte(root>>8), byte(root>>16), byte(root>>24)
	for _, page := range used {
		m[page/8/size][page/8%size] |= 1 << (page % 8)
	}
	return m
}

func content(number, size int) []byte {
	b := filled(byte(0x40+number%0x80), size)
	b[0], b[1] = byte(number>>8), byte(number)
	return b
}

func filled(x byte, size int) []byte { return bytes.Repeat([]byte{x}, size) }

// upFrom are so many numbers from this one on.
func upFrom(first, count int) []int {
	var out []int
	for k := range count {
		out = append(out, first+k)
	}
	return out
}

// model is a transaction in the chapter's words: what the wal has, and what was done.
type model struct {
	was   image
	used  []bool
	bytes map[int][]byte // of pages that are used and were written or taken
	set   bool
	to    int
}

func begin(m image) *model {
	x := &model{was: m, bytes: map[int][]byte{}}
	for page := range m {
		x.used = append(x.used, m.isPage(page) && m.used(page))
	}
	return x
}

func (x *model) isUsed(page int) bool { return page >= 0 && page < len(x.used) && x.used[page] }

func (x *model) root() int {
	if x.set {
		return x.to
	}
	return x.was.root()
}

func (x *model) setRoot(page int) api.Errno {
	if page != 0 && !x.isUsed(page) {
		return api.ErrArg
	}
	x.set, x.to = true, page
	return api.OK
}

func (x *model) read(page int) ([]byte, api.Errno) {
	if !x.isUsed(page) {
		return nil, api.ErrArg
	}
	if b, ok := x.bytes[page]; ok {
		return b, api.OK
	}
	return x.was[page], api.OK
}

func (x *model) write(page int, b []byte) api.Errno {
	if !x.isUsed(page) || len(b) != x.was.size() {
		return api.ErrArg
	}
	x.bytes[page] = bytes.Clone(b)
	return api.OK
}

func (x *model) take() (int, api.Errno) {
	for page := range x.used {
		if x.was.isPage(page) && !x.used[page] {
			x.used[page], x.bytes[page] = true, make([]byte, x.was.size())
			return page, api.OK
		}
	}
	return 0, api.ErrFull
}

func (x *model) give(page int) api.Errno {
	if !x.isUsed(page) || page == x.root() {
		return api.ErrArg
	}
	x.used[page] = false
	delete(x.bytes, page)
	return api.OK
}

// changes are what P7.3 says, and the image that they make.
func (x *model) changes() ([]api.Change, image) {
	made := image{}
	for _, b := range x.was {
		made = append(made, bytes.Clone(b))
	}
	size := made.size()
	for page, used := range x.used {
		if made.isPage(page) && used != made.used(page) {
			made[page/8/size][page/8%size] ^= 1 << (page % 8)
		}
	}
	if x.set {
		made[made.mapBlocks()] = make([]byte, size)
		for k := range 4 {
			made[made.mapBlocks()][k] = byte(x.to >> (8 * k))
		}
	}
	for page, b := range x.bytes {
		made[page] = b
	}
	var l []api.Change
	for block, b := range made {
		_, own := x.bytes[block]
		isMap, isRoot := block < made.mapBlocks(), block == made.mapBlocks()
		if isMap && !bytes.Equal(b, x.was[block]) || isRoot && x.set || own {
			l = append(l, api.Change{Sector: block, Bytes: b})
		}
	}
	return l, made
}

// rig is pages, and what they lie on.
type rig struct {
	disk  *disk.Disk
	log   int
	wal   *wal.Wal
	pages *pages.Pages
}

// lay makes a disk whose wal has these blocks, all of it flushed, and opens it.
func lay(t *testing.T, m image, log int) *rig {
	t.Helper()
	d, e := disk.New(1+log+len(m), m.size())
	if e != api.OK {
		t.Fatalf("disk.New: %d", e)
	}
	for block, b := range m {
		if bytes.Equal(b, make([]byte, len(b))) {
			continue
		}
		if e := d.Write(1+log+block, b); e != api.OK {
			t.Fatalf("disk.Write: %d", e)
		}
	}
	d.Flush()
	r := &rig{disk: d, log: log}
	r.open(t)
	return r
}

// open opens all anew.
func (r *rig) open(t *testing.T) {
	t.Helper()
	r.disk.On()
	w, e := wal.Open(r.disk, r.log)
	if e != api.OK {
		t.Fatalf("wal.Open: %d", e)
	}
	p, e := pages.Open(w)
	if p == nil || e != api.OK {
		t.Fatalf("Open = %v, %d; want pages, OK", p, e)
	}
	r.wal, r.pages = w, p
}

func (r *rig) image(t *testing.T) image {
	t.Helper()
	blocks, _ := r.wal.Size()
	m := image{}
	for block := range blocks {
		b, e := r.wal.Read(block)
		if e != api.OK {
			t.Fatalf("wal.Read(%d): %d", block, e)
		}
		m = append(m, b)
	}
	return m
}

func wantImage(t *testing.T, what string, r *rig, want image) {
	t.Helper()
	got := r.image(t)
	for block := range want {
		if !bytes.Equal(got[block], want[block]) {
			t.Errorf("%s: block %d has %x; want %x", what, block, got[block], want[block])
		}
	}
}

func wantErrno(t *testing.T, what string, got, want api.Errno) {
	t.Helper()
	if got != want {
		t.Errorf("%s: %d; want %d", what, got, want)
	}
}

func wantFree(t *testing.T, p *pages.Pages, want int, e api.Errno) {
	t.Helper()
	if n, f := p.Free(); n != want || f != e {
		t.Errorf("Free = %d, %d; want %d, %d", n, f, want, e)
	}
}

func wantSize(t *testing.T, p *pages.Pages, count, size int) {
	t.Helper()
	if n, b := p.Size(); n != count || b != size {
		t.Errorf("Size = %d, %d; want %d, %d", n, b, count, size)
	}
}

func wantTake(t *testing.T, x *pages.Tx, want int, e api.Errno) {
	t.Helper()
	if n, f := x.Take(); n != want || f != e {
		t.Errorf("Take = %d, %d; want %d, %d", n, f, want, e)
	}
}

func wantRoot(t *testing.T, x *pages.Tx, want int, e api.Errno) {
	t.Helper()
	if n, f := x.Root(); n != want || f != e {
		t.Errorf("Root = %d, %d; want %d, %d", n, f, want, e)
	}
}

func wantRead(t *testing.T, x *pages.Tx, page int, want []byte, e api.Errno) {
	t.Helper()
	if b, f := x.Read(page); !bytes.Equal(b, want) || f != e {
		t.Errorf("Read(%d) = %x, %d; want %x, %d", page, b, f, want, e)
	}
}

// wantDeeds: do does so many writes and flushes.
func wantDeeds(t *testing.T, what string, d *disk.Disk, want int, do func()) {
	t.Helper()
	was := d.Deeds()
	do()
	if got := d.Deeds() - was; got != want {
		t.Errorf("%s: %d deeds; want %d", what, got, want)
	}
}

// wantDone: every call of it answers ErrArg, but Bytes; and nothing is done to the disk.
func wantDone(t *testing.T, what string, r *rig, x *pages.Tx) {
	t.Helper()
	_, size := r.pages.Size()
	wantDeeds(t, what, r.disk, 0, func() {
		wantRoot(t, x, 0, api.ErrArg)
		wantTake(t, x, 0, api.ErrArg)
		wantErrno(t, what+": SetRoot(0)", x.SetRoot(0), api.ErrArg)
		for _, page := range []int{-1, 0, 1, 2, 3, 4, 5, 15} {
			wantRead(t, x, page, nil, api.ErrArg)
			wantErrno(t, what+": SetRoot", x.SetRoot(page), api.ErrArg)
			wantErrno(t, what+": Write", x.Write(page, make([]byte, size)), api.ErrArg)
			wantErrno(t, what+": Give", x.Give(page), api.ErrArg)
		}
		wantErrno(t, what+": Commit", x.Commit(), api.ErrArg)
		if x.Bytes() != size {
			t.Errorf("%s: Bytes = %d; want %d", what, x.Bytes(), size)
		}
	})
}

// wantAll: what the transaction tells of all numbers is what the model does.
func wantAll(t *testing.T, x *pages.Tx, want *model) {
	t.Helper()
	wantRoot(t, x, want.root(), api.OK)
	for page := -2; page < len(want.used)+2; page++ {
		b, e := want.read(page)
		wantRead(t, x, page, b, e)
	}
}

func TestP7_1OpenAtTheEdges(t *testing.T) {
	for _, c := range []struct{ blocks, size, log, count int }{
		{3, 16, 1, 1}, {4, 16, 1, 2}, {16, 16, 4, 14},
		{127, 16, 4, 125}, {128, 16, 4, 126}, {129, 16, 4, 126}, {130, 16, 4, 127},
		{256, 16, 4, 253}, {257, 16, 4, 253}, {258, 16, 4, 254},
		{136, 17, 4, 134}, {137, 17, 4, 134},
		{3, 4096, 1364, 1}, {32768, 4096, 1, 32766}, {32769, 4096, 1, 32766},
		{65534, 16, 1, 65021}, {65408, 16, 4, 64896}, {65409, 16, 4, 64896}, {65534, 4096, 1, 65531},
	} {
		r := lay(t, blank(c.blocks, c.size), c.log)
		wantSize(t, r.pages, c.count, c.size)
		wantFree(t, r.pages, c.count, api.OK)
		x := r.pages.Begin()
		if x.Bytes() != c.size {
			t.Errorf("%v: Bytes = %d", c, x.Bytes())
		}
		wantRoot(t, x, 0, api.OK)
		wantTake(t, x, c.blocks-c.count, api.OK)
	}
}

func TestP7_1OpenRefusesTooFewBlocks(t *testing.T) {
	for _, c := range []struct{ blocks, size, log int }{{1, 16, 1}, {2, 16, 1}, {2, 16, 4}, {1, 4096, 7}, {2, 4096, 1364}} {
		d, _ := disk.New(1+c.log+c.blocks, c.size)
		w, e := wal.Open(d, c.log)
		wantErrno(t, "wal.Open", e, api.OK)
		if p, e := pages.Open(w); p != nil || e != api.ErrArg {
			t.Errorf("%v: Open = %v, %d; want nil, ErrArg", c, p, e)
		}
	}
}

// TestP7_1OpenTouchesNothing: no deed is done, and the promise names no power.
func TestP7_1OpenTouchesNothing(t *testing.T) {
	m := with(16, 16, 3, 2, 3, 9)
	r := lay(t, m, 4)
	wantDeeds(t, "Open", r.disk, 0, func() { r.open(t) })
	wantImage(t, "Open", r, m)
	r.disk.Crash(nil)
	if p, e := pages.Open(r.wal); p == nil || e != api.OK {
		t.Errorf("Open without power = %v, %d; want pages, OK", p, e)
	}
}

func TestP7_1Nil(t *testing.T) {
	if p, e := pages.Open(nil); p != nil || e != api.ErrNil {
		t.Errorf("Open(nil) = %v, %d; want nil, ErrNil", p, e)
	}
	var p *pages.Pages
	wantSize(t, p, 0, 0)
	wantFree(t, p, 0, api.ErrNil)
	x := p.Begin()
	if x != nil {
		t.Errorf("Begin = %v; want nil", x)
	}
	if x.Bytes() != 0 {
		t.Errorf("Bytes = %d; want 0", x.Bytes())
	}
	wantRoot(t, x, 0, api.ErrNil)
	wantTake(t, x, 0, api.ErrNil)
	for _, page := range []int{-1, 0, 1, 2, 15, math.MaxInt} {
		wantErrno(t, "SetRoot", x.SetRoot(page), api.ErrNil)
		wantRead(t, x, page, nil, api.ErrNil)
		wantErrno(t, "Write", x.Write(page, make([]byte, 16)), api.ErrNil)
		wantErrno(t, "Write", x.Write(page, nil), api.ErrNil)
		wantErrno(t, "Give", x.Give(page), api.ErrNil)
	}
	wantErrno(t, "Commit", x.Commit(), api.ErrNil)
}

// TestP7_1FreeCountsPagesAlone: the bits of the map's blocks, of the root's and behind the last page are no pages'.
func TestP7_1FreeCountsPagesAlone(t *testing.T) {
	for _, c := range []struct {
		m    image
		want int
	}{
		{with(16, 16, 0), 14},
		{with(16, 16, 0, 0, 1), 14},
		{with(16, 16, 0, 16, 17, 127), 14},
		{with(16, 16, 0, 2), 13},
		{with(16, 16, 0, 15), 13},
		{with(16, 16, 0, upFrom(2, 14)...), 0},
		{with(16, 16, 0, upFrom(0, 128)...), 0},
		{with(130, 16, 0, 0, 1, 2), 127},
		{with(130, 16, 0, 3, 7, 8, 127, 128, 129), 121},
		{with(130, 16, 0, upFrom(0, 130)...), 0},
		{with(300, 16, 0, 130, 131, 255, 256, 299, 300), 291},
	} {
		r := lay(t, c.m, 4)
		wantFree(t, r.pages, c.want, api.OK)
		if c.m.free() != c.want {
			t.Errorf("the model tells %d; want %d", c.m.free(), c.want)
		}
	}
}

func TestP7_1FreeIsTheWals(t *testing.T) {
	r := lay(t, blank(16, 16), 4)
	x := r.pages.Begin()
	wantTake(t, x, 2, api.OK)
	wantFree(t, r.pages, 14, api.OK)
	wantErrno(t, "Commit", x.Commit(), api.OK)
	wantFree(t, r.pages, 13, api.OK)
	x = r.pages.Begin()
	wantErrno(t, "Give", x.Give(2), api.OK)
	wantFree(t, r.pages, 13, api.OK)
	wantErrno(t, "Commit", x.Commit(), api.OK)
	wantFree(t, r.pages, 14, api.OK)
}

func TestP7_1FreeWithoutPower(t *testing.T) {
	r := lay(t, with(16, 16, 0, 2), 4)
	r.disk.Crash(nil)
	wantFree(t, r.pages, 0, api.ErrDown)
	wantSize(t, r.pages, 14, 16)
	r.open(t)
	wantFree(t, r.pages, 13, api.OK)
}

func TestP7_2Examples(t *testing.T) {
	r := lay(t, blank(16, 16), 4)
	wantSize(t, r.pages, 14, 16)
	x := r.pages.Begin()
	wantTake(t, x, 2, api.OK)
	wantTake(t, x, 3, api.OK)
	wantErrno(t, "SetRoot(2)", x.SetRoot(2), api.OK)
	wantErrno(t, "Commit", x.Commit(), api.OK)
	wantFree(t, r.pages, 12, api.OK)
	x = r.pages.Begin()
	wantErrno(t, "Give(2)", x.Give(2), api.ErrArg)
	wantErrno(t, "Give(3)", x.Give(3), api.OK)
	wantTake(t, x, 3, api.OK)
	wantRead(t, x, 9, nil, api.ErrArg)
}

// TestP7_2OnTheWal: the bytes are told by hand, not by the model.
func TestP7_2OnTheWal(t *testing.T) {
	m := blank(300, 16)
	m[0][0] = 0b1001_0000 // the pages 4 and 7
	m[0][1] = 0b0000_0001 // the page 8
	m[0][15] = 0b1000_0000
	m[1][0] = 0b0000_0001 // 127 and 128, of two blocks of the map
	m[2][5] = 0b0000_1000 // 299
	m[3] = []byte{0x2b, 0x01, 0, 0, 9, 9, 9, 9, 9, 9, 9, 9, 9, 9, 9, 9}
	m[128] = filled(7, 16)
	r := lay(t, m, 4)
	wantSize(t, r.pages, 296, 16)
	wantFree(t, r.pages, 290, api.OK)
	x := r.pages.Begin()
	wantRoot(t, x, 299, api.OK)
	used := []int{4, 7, 8, 127, 128, 299}
	for page := range 310 {
		if slices.Contains(used, page) {
			wantRead(t, x, page, m[min(page, 299)], api.OK)
		} else {
			wantRead(t, x, page, nil, api.ErrArg)
		}
	}
	wantTake(t, x, 5, api.OK)
	wantTake(t, x, 6, api.OK)
	wantTake(t, x, 9, api.OK)
	wantErrno(t, "SetRoot", x.SetRoot(127), api.OK)
	wantErrno(t, "Give", x.Give(128), api.OK)
	wantErrno(t, "Give", x.Give(5), api.OK)
	wantErrno(t, "Give", x.Give(6), api.OK)
	wantErrno(t, "Commit", x.Commit(), api.OK)
	m[0][1] = 0b0000_0011
	m[1][0] = 0
	m[3] = []byte{127, 0, 0, 0, 0, 0, 0, 0, 0, 0, 0, 0, 0, 0, 0, 0}
	m[9] = make([]byte, 16)
	wantImage(t, "Commit", r, m)
}

// TestP7_2RootsNumber: all its four bytes count.
func TestP7_2RootsNumber(t *testing.T) {
	m := blank(65409, 16)
	for _, root := range []int{0, 1, 255, 256, 0x0102, 65408, 0x010203, 0x01020304, 0xfffffffe} {
		b := m[m.mapBlocks()]
		b[0], b[1], b[2], b[3], b[4] = byte(root), byte(root>>8), byte(root>>16), byte(root>>24), 0xff
		r := lay(t, m, 4)
		wantRoot(t, r.pages.Begin(), root, api.OK)
	}
	used := []int{513, 514, 0x0102 + 512, 65280, 65407, 65408}
	r := lay(t, with(65409, 16, 0, used...), 4)
	for _, page := range used {
		x := r.pages.Begin()
		wantErrno(t, "SetRoot", x.SetRoot(page), api.OK)
		wantRoot(t, x, page, api.OK)
		wantErrno(t, "Commit", x.Commit(), api.OK)
		wantRoot(t, r.pages.Begin(), page, api.OK)
		b, _ := r.wal.Read(512)
		if want := append([]byte{byte(page), byte(page >> 8)}, make([]byte, 14)...); !bytes.Equal(b, want) {
			t.Errorf("the root's block of %d: %x; want %x", page, b, want)
		}
	}
}

// numbers are those at the edges of an image, and some far away.
func numbers(m image) []int {
	first, last := m.mapBlocks()+1, len(m)-1
	out := []int{math.MinInt, math.MinInt32, -len(m), -first, -2, -1, 0, 1, first - 2, first - 1, first, first + 1, last - 1, last, last + 1, last + 2, 8 * m.size(), 8*m.size() - 1, 8*m.size() + 1, 65535, 65536, math.MaxInt32, 1 << 32, 1<<32 + first, math.MaxInt}
	return append(out, 7, 8, 9, 127, 128, 129, 255, 256)
}

// TestP7_2EachNumber: each call with each number, of a transaction of its own.
func TestP7_2EachNumber(t *testing.T) {
	for _, m := range []image{
		with(3, 16, 0), with(3, 16, 2, 2), with(16, 16, 2, 2, 3, 15), with(16, 16, 15, upFrom(0, 128)...),
		with(130, 16, 3, 0, 1, 2, 3, 8, 127, 129), with(130, 16, 128, 7, 128), with(130, 16, 0, upFrom(0, 256)...),
		with(300, 16, 256, 4, 7, 128, 255, 256, 299), with(140, 17, 136, 3, 135, 136),
	} {
		r := lay(t, m, 4)
		for _, page := range numbers(m) {
			want := begin(m)
			b, e := want.read(page)
			wantRead(t, r.pages.Begin(), page, b, e)
			wantErrno(t, "SetRoot", r.pages.Begin().SetRoot(page), want.setRoot(page))
			want = begin(m)
			wantErrno(t, "Write", r.pages.Begin().Write(page, filled(1, m.size())), want.write(page, filled(1, m.size())))
			wantErrno(t, "Give", r.pages.Begin().Give(page), want.give(page))
		}
		wantImage(t, "nothing was committed", r, m)
	}
}

func TestP7_2SetRoot(t *testing.T) {
	r := lay(t, with(16, 16, 4, 2, 4), 4)
	x := r.pages.Begin()
	wantRoot(t, x, 4, api.OK)
	wantErrno(t, "SetRoot(3), not used", x.SetRoot(3), api.ErrArg)
	wantErrno(t, "SetRoot(1), the root's block", x.SetRoot(1), api.ErrArg)
	wantErrno(t, "SetRoot(16)", x.SetRoot(16), api.ErrArg)
	wantErrno(t, "SetRoot(-1)", x.SetRoot(-1), api.ErrArg)
	wantRoot(t, x, 4, api.OK)
	wantErrno(t, "SetRoot(0)", x.SetRoot(0), api.OK)
	wantRoot(t, x, 0, api.OK)
	wantErrno(t, "SetRoot(3)", x.SetRoot(3), api.ErrArg)
	wantRoot(t, x, 0, api.OK)
	wantErrno(t, "SetRoot(2)", x.SetRoot(2), api.OK)
	wantRoot(t, x, 2, api.OK)
	wantTake(t, x, 3, api.OK)
	wantErrno(t, "SetRoot(3), taken", x.SetRoot(3), api.OK)
	wantErrno(t, "Give(2), the root's no more", x.Give(2), api.OK)
	wantErrno(t, "SetRoot(2), given", x.SetRoot(2), api.ErrArg)
	wantRoot(t, x, 3, api.OK)
	wantErrno(t, "Commit", x.Commit(), api.OK)
	wantRoot(t, r.pages.Begin(), 3, api.OK)
	x = r.pages.Begin()
	wantErrno(t, "SetRoot(0)", x.SetRoot(0), api.OK)
	wantErrno(t, "Commit", x.Commit(), api.OK)
	wantRoot(t, r.pages.Begin(), 0, api.OK)
}

func TestP7_2WriteAndRead(t *testing.T) {
	m := with(16, 16, 0, 2, 5)
	r := lay(t, m, 4)
	x := r.pages.Begin()
	for _, count := range []int{0, 1, 15, 17, 32, 4096} {
		wantErrno(t, "Write of other bytes", x.Write(2, filled(9, count)), api.ErrArg)
		wantErrno(t, "Write of other bytes, not used", x.Write(3, filled(9, count)), api.ErrArg)
	}
	wantErrno(t, "Write(2, nil)", x.Write(2, nil), api.ErrArg)
	wantRead(t, x, 2, m[2], api.OK)
	wantErrno(t, "Write", x.Write(2, filled(9, 16)), api.OK)
	wantRead(t, x, 2, filled(9, 16), api.OK)
	wantRead(t, x, 5, m[5], api.OK)
	wantErrno(t, "Write", x.Write(2, filled(8, 16)), api.OK)
	wantErrno(t, "Write of fewer", x.Write(2, filled(7, 15)), api.ErrArg)
	wantRead(t, x, 2, filled(8, 16), api.OK)
	wantErrno(t, "Write, not used", x.Write(3, filled(9, 16)), api.ErrArg)
	wantRead(t, x, 3, nil, api.ErrArg)
	wantImage(t, "not committed", r, m)
	wantErrno(t, "Commit", x.Commit(), api.OK)
	wantRead(t, r.pages.Begin(), 2, filled(8, 16), api.OK)
	wantRead(t, r.pages.Begin(), 5, m[5], api.OK)
}

// TestP7_2TakeToTheLast: each page once, by rising numbers; then ErrFull, which turns nothing.
func TestP7_2TakeToTheLast(t *testing.T) {
	for _, m := range []image{
		with(3, 16, 0), with(16, 16, 0), with(16, 16, 0, 2), with(16, 16, 0, 0, 1, 15, 16, 127), with(16, 16, 3, 3, 4, 9),
		with(128, 16, 0), with(129, 16, 0), with(130, 16, 0, 7, 8, 127), with(140, 17, 0, 135), with(300, 16, 0, 0, 1, 2, 3, 128, 255), with(3000, 64, 0, 511, 512),
		with(300, 16, 0, append(upFrom(100, 90), upFrom(248, 8)...)...),
	} {
		r := lay(t, m, 4)
		x := r.pages.Begin()
		want := begin(m)
		for range m.free() {
			page, e := want.take()
			wantTake(t, x, page, e)
			wantRead(t, x, page, make([]byte, m.size()), api.OK)
		}
		wantTake(t, x, 0, api.ErrFull)
		wantTake(t, x, 0, api.ErrFull)
		wantAll(t, x, want)
	}
}

func TestP7_2TheGreatestDisk(t *testing.T) {
	r := lay(t, blank(65534, 16), 1)
	x := r.pages.Begin()
	for page := 513; page < 65534; page++ {
		if n, e := x.Take(); n != page || e != api.OK {
			t.Fatalf("Take = %d, %d; want %d, OK", n, e, page)
		}
	}
	wantTake(t, x, 0, api.ErrFull)
	for _, page := range []int{65533, 513, 4096} {
		wantErrno(t, "Give", x.Give(page), api.OK)
		wantTake(t, x, page, api.OK)
	}
	wantErrno(t, "Commit", x.Commit(), api.ErrLog)
	wantFree(t, r.pages, 65021, api.OK)
}

// TestP7_2TheLowestBehindGives: whatever the order in which they are given back.
func TestP7_2TheLowestBehindGives(t *testing.T) {
	r := lay(t, with(130, 16, 0, upFrom(3, 127)...), 4)
	for _, given := range [][]int{{3}, {129}, {9, 8, 7}, {128, 127}, {127, 128}, {129, 3, 64}, {16, 15, 24, 23}} {
		x := r.pages.Begin()
		wantTake(t, x, 0, api.ErrFull)
		for _, page := range given {
			wantErrno(t, "Give", x.Give(page), api.OK)
			wantRead(t, x, page, nil, api.ErrArg)
		}
		for _, page := range slices.Sorted(slices.Values(given)) {
			wantTake(t, x, page, api.OK)
		}
		wantTake(t, x, 0, api.ErrFull)
	}
}

// TestP7_2AgainTakenIsClear: whether the bytes were the wal's or the transaction's.
func TestP7_2AgainTakenIsClear(t *testing.T) {
	m := with(16, 16, 0, 2, 3)
	r := lay(t, m, 4)
	x := r.pages.Begin()
	wantErrno(t, "Give", x.Give(2), api.OK)
	wantTake(t, x, 2, api.OK)
	wantRead(t, x, 2, make([]byte, 16), api.OK)
	wantErrno(t, "Write", x.Write(3, filled(5, 16)), api.OK)
	wantErrno(t, "Give", x.Give(3), api.OK)
	wantTake(t, x, 3, api.OK)
	wantRead(t, x, 3, make([]byte, 16), api.OK)
	wantTake(t, x, 4, api.OK)
	wantRead(t, x, 4, make([]byte, 16), api.OK)
	wantErrno(t, "Commit", x.Commit(), api.OK)
	m[0][0] |= 1 << 4
	m[2], m[3], m[4] = make([]byte, 16), make([]byte, 16), make([]byte, 16)
	wantImage(t, "Commit", r, m)
}

func TestP7_2Give(t *testing.T) {
	r := lay(t, with(16, 16, 4, 2, 3, 4), 4)
	x := r.pages.Begin()
	wantErrno(t, "Give(4), the root's", x.Give(4), api.ErrArg)
	wantRead(t, x, 4, content(4, 16), api.OK)
	wantErrno(t, "Give(5), not used", x.Give(5), api.ErrArg)
	wantErrno(t, "Give(2)", x.Give(2), api.OK)
	wantErrno(t, "Give(2), given", x.Give(2), api.ErrArg)
	wantErrno(t, "Write(2), given", x.Write(2, filled(1, 16)), api.ErrArg)
	wantErrno(t, "SetRoot(3)", x.SetRoot(3), api.OK)
	wantErrno(t, "Give(3), its own root", x.Give(3), api.ErrArg)
	wantErrno(t, "Give(4), the root's no more", x.Give(4), api.OK)
	wantErrno(t, "SetRoot(0)", x.SetRoot(0), api.OK)
	wantErrno(t, "Give(3)", x.Give(3), api.OK)
	wantTake(t, x, 2, api.OK)
	wantErrno(t, "Give(2), taken", x.Give(2), api.OK)
	wantErrno(t, "Commit", x.Commit(), api.OK)
	wantFree(t, r.pages, 14, api.OK)
	wantRoot(t, r.pages.Begin(), 0, api.OK)
}

// TestP7_2GiveOfARootThatIsNotUsed: other hands may have written such a one.
func TestP7_2GiveOfARootThatIsNotUsed(t *testing.T) {
	r := lay(t, with(16, 16, 9, 2), 4)
	x := r.pages.Begin()
	wantRoot(t, x, 9, api.OK)
	wantErrno(t, "Give(9)", x.Give(9), api.ErrArg)
	wantRead(t, x, 9, nil, api.ErrArg)
	wantErrno(t, "Give(2)", x.Give(2), api.OK)
}

// step is a call of a transaction.
type step struct {
	call string
	page int
}

// do does a step to both, and holds their answers against each other.
func (s step) do(t *testing.T, x *pages.Tx, want *model) {
	t.Helper()
	b := content(s.page+0x3000, x.Bytes())
	switch s.call {
	case "take":
		page, e := want.take()
		wantTake(t, x, page, e)
	case "give":
		wantErrno(t, "Give", x.Give(s.page), want.give(s.page))
	case "root":
		wantErrno(t, "SetRoot", x.SetRoot(s.page), want.setRoot(s.page))
	case "write":
		wantErrno(t, "Write", x.Write(s.page, b), want.write(s.page, b))
	case "read":
		got, e := want.read(s.page)
		wantRead(t, x, s.page, got, e)
	}
}

// deeds of a transaction, and which blocks its Commit changes.
type deeds struct {
	m     image
	steps []step
	want  []int
}

func take(count int) []step { return slices.Repeat([]step{{"take", 0}}, count) }

// someDeeds have at most four changes.
func someDeeds() []deeds {
	small := with(16, 16, 3, 2, 3, 6, 7)
	large := with(260, 16, 5, append(upFrom(4, 123), 128, 255, 256, 259)...) // the lowest that is not used is 127
	return []deeds{
		{small, nil, nil},
		{small, []step{{"read", 2}, {"read", 9}, {"give", 3}, {"give", 9}, {"root", 9}, {"write", 9}}, nil},
		{small, take(1), []int{0, 4}},
		{small, take(3), []int{0, 4, 5, 8}},
		{small, []step{{"give", 2}}, []int{0}},
		{small, []step{{"give", 2}, {"give", 6}, {"give", 7}}, []int{0}},
		{small, []step{{"write", 2}}, []int{2}},
		{small, []step{{"write", 7}, {"write", 2}, {"write", 7}}, []int{2, 7}},
		{small, []step{{"write", 7}, {"give", 7}}, []int{0}},
		{small, []step{{"root", 0}}, []int{1}},
		{small, []step{{"root", 3}}, []int{1}},
		{small, []step{{"root", 2}, {"root", 3}, {"root", 9}}, []int{1}},
		{small, []step{{"root", 0}, {"give", 3}, {"give", 2}}, []int{0, 1}},
		{small, []step{{"take", 0}, {"give", 4}}, nil},
		{small, []step{{"take", 0}, {"write", 4}, {"give", 4}}, nil},
		{small, []step{{"take", 0}, {"write", 4}, {"root", 4}, {"give", 3}}, []int{0, 1, 4}},
		{small, []step{{"give", 2}, {"take", 0}}, []int{2}},
		{small, []step{{"give", 2}, {"take", 0}, {"write", 2}}, []int{2}},
		{small, []step{{"write", 2}, {"give", 2}, {"take", 0}}, []int{2}},
		{small, []step{{"take", 0}, {"give", 2}, {"give", 6}, {"write", 4}}, []int{0, 4}},
		{small, []step{{"take", 0}, {"take", 0}, {"root", 5}}, []int{0, 1, 4, 5}},
		{large, take(1), []int{0, 127}},
		{large, take(2), []int{0, 1, 127, 129}},
		{large, []step{{"give", 128}}, []int{1}},
		{large, []step{{"give", 259}, {"give", 256}}, []int{2}},
		{large, []step{{"give", 255}, {"give", 256}}, []int{1, 2}},
		{large, []step{{"take", 0}, {"give", 255}, {"give", 256}}, []int{0, 1, 2, 127}},
		{large, []step{{"take", 0}, {"give", 127}, {"give", 256}}, []int{2}},
		{large, []step{{"root", 259}, {"write", 259}, {"give", 5}}, []int{0, 3, 259}},
		{large, []step{{"give", 128}, {"take", 0}, {"take", 0}}, []int{0, 127, 128}},
		{with(16, 16, 0, 0, 1, 16, 127), append(take(1), step{"root", 2}), []int{0, 1, 2}},
	}
}

// run does the steps in a new transaction on a new disk.
func (c deeds) run(t *testing.T) (*rig, *pages.Tx, *model) {
	t.Helper()
	r := lay(t, c.m, 4)
	x, want := r.pages.Begin(), begin(c.m)
	for _, s := range c.steps {
		s.do(t, x, want)
	}
	return r, x, want
}

func sectorsOf(l []api.Change) []int {
	var out []int
	for _, c := range l {
		out = append(out, c.Sector)
	}
	return out
}

// logged are the changes of a commit that is set, as the disk has them.
func logged(t *testing.T, r *rig) []api.Change {
	t.Helper()
	r.disk.On()
	commit, e := r.disk.Read(0)
	if e != api.OK || commit[0] != 1 {
		t.Errorf("no commit is set: %x, %d", commit, e)
		return nil
	}
	var l []api.Change
	for k := range int(commit[2]) {
		b, _ := r.disk.Read(1 + k)
		l = append(l, api.Change{Sector: int(commit[4+3*k])<<8 | int(commit[5+3*k]), Bytes: b})
	}
	return l
}

func sameChanges(a, b []api.Change) bool {
	byBlock := func(l []api.Change) map[int]string {
		out := map[int]string{}
		for _, c := range l {
			out[c.Sector] = string(c.Bytes)
		}
		return out
	}
	return len(a) == len(b) && maps.Equal(byBlock(a), byBlock(b))
}

// TestP7_3WhichChanges: a Commit makes these, and no other.
func TestP7_3WhichChanges(t *testing.T) {
	for at, c := range someDeeds() {
		r, x, want := c.run(t)
		l, made := want.changes()
		if !slices.Equal(sectorsOf(l), c.want) {
			t.Errorf("%d: the model changes %v; want %v", at, sectorsOf(l), c.want)
		}
		wantAll(t, x, want)
		wantImage(t, "not committed", r, c.m)
		count := 2*len(l) + 6
		if len(l) == 0 {
			count = 0
		}
		wantDeeds(t, "Commit", r.disk, count, func() { wantErrno(t, "Commit", x.Commit(), api.OK) })
		wantImage(t, "Commit", r, made)
		wantFree(t, r.pages, made.free(), api.OK)
		wantAll(t, r.pages.Begin(), begin(made))
		wantDone(t, "Commit", r, x)
		if len(l) == 0 {
			continue
		}
		r, x, _ = c.run(t)
		r.disk.Arm(len(l)+3, []bool{true})
		wantErrno(t, "Commit, cut behind the commit's write", x.Commit(), api.ErrDown)
		if got := logged(t, r); !sameChanges(got, l) {
			t.Errorf("%d: the changes are %v; want %v", at, got, l)
		}
	}
}

// TestP7_3CommitOfNothing is no deed, and is done nonetheless.
func TestP7_3CommitOfNothing(t *testing.T) {
	m := with(16, 16, 3, 2, 3)
	r := lay(t, m, 4)
	for _, look := range []bool{false, true} {
		x := r.pages.Begin()
		if look {
			wantAll(t, x, begin(m))
		}
		wantDeeds(t, "Commit", r.disk, 0, func() { wantErrno(t, "Commit", x.Commit(), api.OK) })
		wantDone(t, "Commit", r, x)
		wantImage(t, "Commit", r, m)
	}
}

// TestP7_3AsMuchAsTheLog: just that many changes are committed, one more is ErrLog, and turns nothing.
func TestP7_3AsMuchAsTheLog(t *testing.T) {
	for _, c := range []struct{ size, log int }{{16, 1}, {16, 2}, {16, 3}, {16, 4}, {32, 9}, {64, 20}, {4096, 1364}} {
		m := with(1500, c.size, 0, upFrom(1500-c.log-1, c.log+1)...)
		for _, more := range []int{0, 1} {
			r := lay(t, m, c.log)
			x := r.pages.Begin()
			for k := range c.log + more {
				wantErrno(t, "Write", x.Write(1499-k, filled(byte(k), c.size)), api.OK)
			}
			wantCommitOfWrites(t, r, x, m, c.log+more)
			r = lay(t, m, c.log)
			x = r.pages.Begin()
			wantErrno(t, "SetRoot", x.SetRoot(1499), api.OK)
			for k := range c.log - 1 + more {
				wantErrno(t, "Write", x.Write(1499-k, filled(byte(k), c.size)), api.OK)
			}
			wantErrno(t, "Commit", x.Commit(), api.ErrLog*api.Errno(more))
		}
	}
}

func wantCommitOfWrites(t *testing.T, r *rig, x *pages.Tx, m image, count int) {
	t.Helper()
	if count > r.log {
		wantDeeds(t, "Commit", r.disk, 0, func() { wantErrno(t, "Commit", x.Commit(), api.ErrLog) })
		wantImage(t, "ErrLog", r, m)
		wantDone(t, "ErrLog", r, x)
		y := r.pages.Begin()
		wantRead(t, y, 1499, m[1499], api.OK)
		wantErrno(t, "Write", y.Write(1499, filled(9, m.size())), api.OK)
		wantErrno(t, "Commit behind ErrLog", y.Commit(), api.OK)
		return
	}
	wantErrno(t, "Commit", x.Commit(), api.OK)
	for k := range count {
		b, _ := r.wal.Read(1499 - k)
		if !bytes.Equal(b, filled(byte(k), m.size())) {
			t.Errorf("page %d has %x", 1499-k, b)
		}
	}
}

// TestP7_3TooMuchWithoutPower: the promise names ErrLog first.
func TestP7_3TooMuchWithoutPower(t *testing.T) {
	r := lay(t, blank(16, 16), 2)
	x := r.pages.Begin()
	wantTake(t, x, 2, api.OK)
	wantTake(t, x, 3, api.OK)
	r.disk.Crash(nil)
	wantErrno(t, "Commit", x.Commit(), api.ErrLog)
	wantDone(t, "ErrLog", r, x)
}

func TestP7_3TheLaterOneCounts(t *testing.T) {
	m := with(16, 16, 3, 2, 3)
	r := lay(t, m, 4)
	x := r.pages.Begin()
	wantTake(t, x, 4, api.OK)
	wantErrno(t, "Write", x.Write(2, filled(1, 16)), api.OK)
	wantErrno(t, "SetRoot", x.SetRoot(4), api.OK)
	y := r.pages.Begin()
	wantDone(t, "a later one was begun", r, x)
	wantAll(t, y, begin(m))
	wantTake(t, y, 4, api.OK)
	wantErrno(t, "Commit", y.Commit(), api.OK)
	wantDone(t, "the later one is done, too", r, x)
	wantDone(t, "committed", r, y)
	made := with(16, 16, 3, 2, 3, 4)
	made[4] = make([]byte, 16)
	wantImage(t, "Commit", r, made)
}

// TestP7_3PagesApart: the later one of other pages ends nothing.
func TestP7_3PagesApart(t *testing.T) {
	r, s := lay(t, blank(16, 16), 4), lay(t, blank(16, 16), 4)
	x := r.pages.Begin()
	y := s.pages.Begin()
	wantTake(t, x, 2, api.OK)
	wantTake(t, y, 2, api.OK)
	wantErrno(t, "Commit", y.Commit(), api.OK)
	wantTake(t, x, 3, api.OK)
	wantErrno(t, "Commit", x.Commit(), api.OK)
	wantFree(t, r.pages, 12, api.OK)
	wantFree(t, s.pages, 13, api.OK)
}

// calls are those of a transaction that ask the wal, the pages 2 and 3 being used.
func calls() map[string]func(x *pages.Tx) api.Errno {
	return map[string]func(x *pages.Tx) api.Errno{
		"Root":    func(x *pages.Tx) api.Errno { n, e := x.Root(); return e + api.Errno(1000*n) },
		"SetRoot": func(x *pages.Tx) api.Errno { return x.SetRoot(2) },
		"Read":    func(x *pages.Tx) api.Errno { b, e := x.Read(2); return e + api.Errno(1000*len(b)) },
		"Write":   func(x *pages.Tx) api.Errno { return x.Write(2, filled(1, 16)) },
		"Take":    func(x *pages.Tx) api.Errno { n, e := x.Take(); return e + api.Errno(1000*n) },
		"Give":    func(x *pages.Tx) api.Errno { return x.Give(2) },
	}
}

// TestP7_3DoneByDown: behind a call that was answered ErrDown, with power or without.
func TestP7_3DoneByDown(t *testing.T) {
	m := with(16, 16, 3, 2, 3)
	for name, call := range calls() {
		r := lay(t, m, 4)
		x := r.pages.Begin()
		r.disk.Crash(nil)
		wantErrno(t, name+" without power", call(x), api.ErrDown)
		wantDone(t, name+" without power", r, x)
		r.disk.On()
		wantDone(t, name+", power again", r, x)
		y := r.pages.Begin() // on a wal that is dead
		wantErrno(t, name+" on a dead wal", call(y), api.ErrDown)
		wantDone(t, name+" on a dead wal", r, y)
		r.open(t)
		wantImage(t, name, r, m)
		wantAll(t, r.pages.Begin(), begin(m))
		wantDone(t, name+", opened anew", r, x)
	}
}

// TestP7_3DownBehindOtherCalls: what was done ahead is not committed.
func TestP7_3DownBehindOtherCalls(t *testing.T) {
	m := with(16, 16, 3, 2, 3)
	for _, name := range []string{"Root", "Read", "Give"} {
		r := lay(t, m, 4)
		x := r.pages.Begin()
		wantTake(t, x, 4, api.OK)
		wantErrno(t, "Write", x.Write(3, filled(1, 16)), api.OK)
		r.disk.Crash(nil)
		wantErrno(t, name, calls()[name](x), api.ErrDown)
		wantDone(t, name, r, x)
		r.open(t)
		wantImage(t, name, r, m)
	}
}

// TestP7_3WrongWithoutPower: what is wrong whatever the wal has is told without it.
func TestP7_3WrongWithoutPower(t *testing.T) {
	r := lay(t, with(16, 16, 3, 2, 3), 4)
	x := r.pages.Begin()
	r.disk.Crash(nil)
	for _, page := range []int{-1, 0, 1, 16, math.MaxInt} {
		wantRead(t, x, page, nil, api.ErrArg)
		wantErrno(t, "Write", x.Write(page, filled(1, 16)), api.ErrArg)
		wantErrno(t, "Give", x.Give(page), api.ErrArg)
		if page != 0 {
			wantErrno(t, "SetRoot", x.SetRoot(page), api.ErrArg)
		}
	}
	wantErrno(t, "Write of fewer bytes", x.Write(2, filled(1, 15)), api.ErrArg)
	r.disk.On()
	wantErrno(t, "Write, power again", x.Write(2, filled(1, 16)), api.OK)
	wantErrno(t, "Commit, power again", x.Commit(), api.OK)
	wantRead(t, r.pages.Begin(), 2, filled(1, 16), api.OK)
}

func TestP7_3CommitWithoutPower(t *testing.T) {
	m := with(16, 16, 3, 2, 3)
	r := lay(t, m, 4)
	x := r.pages.Begin()
	wantTake(t, x, 4, api.OK)
	r.disk.Crash(nil)
	wantErrno(t, "Commit", x.Commit(), api.ErrDown)
	wantDone(t, "Commit", r, x)
	r.open(t)
	wantImage(t, "Commit", r, m)
}

// keeps are all ways of keeping so many writes of the cache.
func keeps(count int) [][]bool {
	var out [][]bool
	for choice := range 1 << count {
		keep := make([]bool, count)
		for place := range keep {
			keep[place] = choice>>place&1 == 1
		}
		out = append(out, keep)
	}
	return out
}

// TestP7_4CutAtEachDeed: all is as it was, up to the flush behind the commit's write; or else as the transaction makes it.
func TestP7_4CutAtEachDeed(t *testing.T) {
	for at, c := range someDeeds() {
		_, _, want := c.run(t)
		l, made := want.changes()
		if len(l) == 0 || at%2 == 1 && len(l) == 1 {
			continue
		}
		for cut := 1; cut <= 2*len(l)+6; cut++ {
			for _, keep := range keeps(len(l)) {
				r, x, _ := c.run(t)
				r.disk.Arm(cut, keep)
				wantErrno(t, "Commit, cut", x.Commit(), api.ErrDown)
				wantDone(t, "Commit, cut", r, x)
				r.open(t)
				is := c.m
				if set := len(l) + 2; cut > set+1 || cut >= set && keep[0] {
					is = made
				}
				if got := r.image(t); !got.equal(is) {
					t.Fatalf("%d, cut at %d, kept %v: %x; want %x", at, cut, keep, got, is)
				}
				wantFree(t, r.pages, is.free(), api.OK)
				wantRoot(t, r.pages.Begin(), is.root(), api.OK)
			}
		}
	}
}

// TestP7_4NotCommitted: whatever a transaction does turns nothing, neither for the next one nor for an opening.
func TestP7_4NotCommitted(t *testing.T) {
	for _, c := range someDeeds() {
		r, _, _ := c.run(t)
		wantAll(t, r.pages.Begin(), begin(c.m))
		wantFree(t, r.pages, c.m.free(), api.OK)
		wantImage(t, "begun anew", r, c.m)
		r.open(t)
		wantImage(t, "opened anew", r, c.m)
		r.disk.Crash(slices.Repeat([]bool{true}, 9))
		r.open(t)
		wantImage(t, "behind a crash", r, c.m)
	}
}

// TestP7_4NoPageTwice: what one transaction took no other takes, unless it was given back.
func TestP7_4NoPageTwice(t *testing.T) {
	chance := rand.New(rand.NewSource(74))
	r := lay(t, with(150, 32, 0), 9)
	taken := map[int]bool{}
	for range 2000 {
		x := r.pages.Begin()
		now := maps.Clone(taken)
		for range chance.Intn(7) {
			if chance.Intn(5) < 3 {
				page, e := x.Take()
				if e == api.OK && now[page] || e != api.OK && len(now) < 148 {
					t.Fatalf("Take = %d, %d; %d are taken", page, e, len(now))
				}
				if e == api.OK {
					now[page] = true
				}
			} else if pages := slices.Sorted(maps.Keys(now)); len(pages) > 0 {
				page := pages[chance.Intn(len(pages))]
				wantErrno(t, "Give", x.Give(page), api.OK)
				delete(now, page)
			}
		}
		if chance.Intn(3) > 0 {
			r.disk.Arm(chance.Intn(25), []bool{true})
			if e := x.Commit(); e == api.OK {
				taken = now
			} else {
				r.open(t)
				if same(t, r, now) {
					taken = now
				}
			}
			r.disk.Arm(0, nil)
		}
		wantFree(t, r.pages, 148-len(taken), api.OK)
		if !same(t, r, taken) {
			t.Fatalf("other pages than %v are used", slices.Sorted(maps.Keys(taken)))
		}
	}
}

// same: just these pages are used.
func same(t *testing.T, r *rig, taken map[int]bool) bool {
	t.Helper()
	m := r.image(t)
	for page := range m {
		if m.isPage(page) && m.used(page) != taken[page] {
			return false
		}
	}
	return true
}

// someStep is any call, mostly of numbers that are pages.
func someStep(chance *rand.Rand, blocks int) step {
	call := []string{"take", "take", "give", "give", "root", "write", "write", "read", "read"}[chance.Intn(9)]
	page := chance.Intn(blocks+4) - 2
	if call == "root" && chance.Intn(4) == 0 {
		page = 0
	}
	return step{call, page}
}

// TestP7_4LongRunsByChance: every answer is the model's; what a Commit leaves is what was, or what it makes.
func TestP7_4LongRunsByChance(t *testing.T) {
	chance := rand.New(rand.NewSource(7))
	for range 40 {
		size := []int{16, 16, 17, 24, 64}[chance.Intn(5)]
		log := 1 + chance.Intn((size-3)/3)
		m := blank([]int{3, 5, 16, 30, 127, 128, 129, 131, 140, 260}[chance.Intn(10)], size)
		for page := range m {
			if m.isPage(page) && chance.Intn(3) > 0 {
				m[page/8/size][page/8%size] |= 1 << (page % 8)
			}
		}
		r := lay(t, m, log)
		for range 60 {
			x, want := r.pages.Begin(), begin(m)
			for range chance.Intn(10) {
				someStep(chance, len(m)).do(t, x, want)
			}
			wantRoot(t, x, want.root(), api.OK)
			m = commitByChance(t, chance, r, x, want)
			if t.Failed() {
				t.FailNow()
			}
		}
	}
}

// commitByChance commits or not, cut or not, and tells what the blocks have now.
func commitByChance(t *testing.T, chance *rand.Rand, r *rig, x *pages.Tx, want *model) image {
	t.Helper()
	if chance.Intn(5) == 0 {
		return want.was
	}
	l, made := want.changes()
	keep := make([]bool, len(l))
	for k := range keep {
		keep[k] = chance.Intn(2) == 0
	}
	r.disk.Arm(chance.Intn(2*len(l)+12), keep)
	e := x.Commit()
	wantDone(t, "Commit", r, x)
	if e == api.ErrDown {
		r.open(t)
	}
	r.disk.Arm(0, nil)
	got := r.image(t)
	switch {
	case len(l) > r.log && (e != api.ErrLog || !got.equal(want.was)),
		len(l) <= r.log && e != api.OK && e != api.ErrDown,
		e == api.OK && !got.equal(made),
		e == api.ErrDown && !got.equal(made) && !got.equal(want.was):
		t.Errorf("Commit of %d changes, log %d = %d: %x; was %x, to be %x", len(l), r.log, e, got, want.was, made)
	}
	wantFree(t, r.pages, got.free(), api.OK)
	return got
}

// TestR2WhatIsGivenIsLeft: neither the bytes nor the room behind them are written into.
func TestR2WhatIsGivenIsLeft(t *testing.T) {
	for cut := range 12 {
		r := lay(t, with(16, 16, 0, 2, 3), 4)
		x := r.pages.Begin()
		room := filled(0xcc, 64)
		wantErrno(t, "Write", x.Write(2, room[:16]), api.OK)
		wantErrno(t, "Write", x.Write(3, room[32:48]), api.OK)
		wantErrno(t, "Write of more", x.Write(3, room[32:50]), api.ErrArg)
		wantErrno(t, "Give", x.Give(3), api.OK)
		wantTake(t, x, 3, api.OK)
		r.disk.Arm(cut, []bool{true})
		x.Commit()
		r.open(t)
		r.pages.Begin().Read(2)
		if !bytes.Equal(room, filled(0xcc, 64)) {
			t.Errorf("cut at %d: the bytes were written into: %x", cut, room)
		}
	}
}

func TestR2WhatIsGivenIsNotKept(t *testing.T) {
	r := lay(t, with(16, 16, 0, 2), 4)
	x := r.pages.Begin()
	b := filled(5, 16)
	wantErrno(t, "Write", x.Write(2, b), api.OK)
	copy(b, filled(6, 16))
	wantRead(t, x, 2, filled(5, 16), api.OK)
	wantErrno(t, "Commit", x.Commit(), api.OK)
	wantRead(t, r.pages.Begin(), 2, filled(5, 16), api.OK)
}

// TestR2WhatComesOutIsNew: a change of what was read is seen neither by the transaction nor by the wal nor by another answer.
func TestR2WhatComesOutIsNew(t *testing.T) {
	m := with(16, 16, 0, 2, 3)
	r := lay(t, m, 4)
	x := r.pages.Begin()
	wantErrno(t, "Write", x.Write(3, filled(5, 16)), api.OK)
	wantTake(t, x, 4, api.OK)
	for page, want := range map[int][]byte{2: m[2], 3: filled(5, 16), 4: make([]byte, 16)} {
		one, _ := x.Read(page)
		other, _ := x.Read(page)
		one = one[:cap(one)]
		for k := range one {
			one[k] = 0xdd
		}
		if !bytes.Equal(other, want) {
			t.Errorf("page %d: a change of one answer is seen in another: %x", page, other)
		}
		wantRead(t, x, page, want, api.OK)
	}
	wantErrno(t, "Commit", x.Commit(), api.OK)
	y := r.pages.Begin()
	wantRead(t, y, 2, m[2], api.OK)
	wantRead(t, y, 3, filled(5, 16), api.OK)
	wantRead(t, y, 4, make([]byte, 16), api.OK)
}
