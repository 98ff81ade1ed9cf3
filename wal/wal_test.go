package wal_test

import (
	"bytes"
	"math"
	"math/rand"
	"slices"
	"testing"

	"chandlery/api"
	"chandlery/disk"
	"chandlery/wal"
)

// deed is a write, or, without bytes, a flush.
type deed struct {
	sector int
	bytes  []byte
}

var flush = deed{}

// image is what all sectors of a disk have.
type image [][]byte

func (m image) equal(o image) bool {
	return slices.EqualFunc(m, o, bytes.Equal)
}

// behind is what the disk has when all these deeds are done.
func (m image) behind(l []deed) image {
	out := slices.Clone(m)
	for _, x := range l {
		if x.bytes != nil {
			out[x.sector] = x.bytes
		}
	}
	return out
}

// cutAt parts the deeds up to the n-th (from 1 on), which is cut: those that are done whatever is kept, and the writes of the cache.
func cutAt(l []deed, n int) (done, cache []deed) {
	for at, x := range l[:n] {
		if x.bytes != nil {
			cache = append(cache, x)
		} else if at < n-1 {
			done, cache = append(done, cache...), nil
		}
	}
	return done, cache
}

// kept are those of the cache's writes that keep has true for.
func kept(cache []deed, keep []bool) []deed {
	var out []deed
	for place, x := range cache {
		if place < len(keep) && keep[place] {
			out = append(out, x)
		}
	}
	return out
}

// keeps are all ways of keeping so many writes.
func keeps(count int) [][]bool {
	var out [][]bool
	for choice := range 1 << count {
		keep := make([]bool, count)
		for place := range keep {
			keep[place] = choice>>place&1 == 1
		}
		out = append(out, keep)
	}
	return out
}

// finishDeeds is what is told of both a Commit and an opening: the changes are written to their blocks, and the commit all 00.
func finishDeeds(size, log int, l []api.Change) []deed {
	var out []deed
	for _, c := range l {
		out = append(out, deed{1 + log + c.Sector, c.Bytes})
	}
	return append(out, flush, deed{0, make([]byte, size)}, flush)
}

// commitDeeds is P6.2's words.
func commitDeeds(size, log int, l []api.Change) []deed {
	if len(l) == 0 {
		return nil
	}
	var out []deed
	commit := make([]byte, size)
	commit[0], commit[1], commit[2] = 1, byte(len(l)/256), byte(len(l)%256)
	for k, c := range l {
		out = append(out, deed{1 + k, c.Bytes})
		commit[3+3*k], commit[4+3*k], commit[5+3*k] = byte(c.Sector/65536), byte(c.Sector/256%256), byte(c.Sector%256)
	}
	out = append(out, flush, deed{0, commit}, flush)
	return append(out, finishDeeds(size, log, l)...)
}

// openDeeds is P6.1's words.
func openDeeds(m image, log int) []deed {
	commit := m[0]
	if commit[0] != 1 {
		return nil
	}
	var l []api.Change
	for k := 0; k < int(commit[1])*256+int(commit[2]) && k < log; k++ {
		block := int(commit[3+3*k])*65536 + int(commit[4+3*k])*256 + int(commit[5+3*k])
		if block < len(m)-1-log {
			l = append(l, api.Change{Sector: block, Bytes: m[1+k]})
		}
	}
	return finishDeeds(len(commit), log, l)
}

// filled is a sector of one byte.
func filled(x byte, size int) []byte { return bytes.Repeat([]byte{x}, size) }

// unlike is an image whose sectors are all unlike; sector 0 is no commit that is set.
func unlike(sectors, size int) image {
	var m image
	for sector := range sectors {
		b := filled(byte(0x20+sector%0xc0), size)
		b[size-2], b[size-1] = byte(sector>>8), byte(sector)
		m = append(m, b)
	}
	return m
}

// changes are to these blocks, each with bytes of its own.
func changes(size int, blocks ...int) []api.Change {
	var l []api.Change
	for k, block := range blocks {
		b := filled(byte(0xe0+k%16), size)
		b[0], b[size-1] = byte(k>>8), byte(k)
		l = append(l, api.Change{Sector: block, Bytes: b})
	}
	return l
}

// upTo are the blocks from 0 on, so many.
func upTo(count int) []int {
	var out []int
	for block := range count {
		out = append(out, block)
	}
	return out
}

// commitOf is a commit's sector: its head, and the numbers of blocks.
func commitOf(size int, head []byte, blocks ...int) []byte {
	out := bytes.Clone(head)
	for _, block := range blocks {
		out = append(out, byte(block>>16), byte(block>>8), byte(block))
	}
	return append(out, make([]byte, size-len(out))...)
}

func newDisk(t *testing.T, sectors, size int) *disk.Disk {
	t.Helper()
	d, e := disk.New(sectors, size)
	if e != api.OK {
		t.Fatalf("disk.New(%d, %d): %d", sectors, size, e)
	}
	return d
}

// lay makes a disk that has this, all of it flushed.
func lay(t *testing.T, m image) *disk.Disk {
	t.Helper()
	d := newDisk(t, len(m), len(m[0]))
	for sector, b := range m {
		if e := d.Write(sector, b); e != api.OK {
			t.Fatalf("disk.Write(%d): %d", sector, e)
		}
	}
	if e := d.Flush(); e != api.OK {
		t.Fatalf("disk.Flush: %d", e)
	}
	return d
}

func imageOf(t *testing.T, d *disk.Disk) image {
	t.Helper()
	sectors, _ := d.Size()
	var m image
	for sector := range sectors {
		b, e := d.Read(sector)
		if e != api.OK {
			t.Fatalf("disk.Read(%d): %d", sector, e)
		}
		m = append(m, b)
	}
	return m
}

func wantImage(t *testing.T, what string, d *disk.Disk, want image) {
	t.Helper()
	got := imageOf(t, d)
	for sector := range want {
		if !bytes.Equal(got[sector], want[sector]) {
			t.Errorf("%s: sector %d has %x; want %x", what, sector, got[sector], want[sector])
		}
	}
}

func open(t *testing.T, d *disk.Disk, log int) *wal.Wal {
	t.Helper()
	w, e := wal.Open(d, log)
	if w == nil || e != api.OK {
		t.Fatalf("Open(disk, %d) = %v, %d; want a wal, OK", log, w, e)
	}
	return w
}

func wantNoOpen(t *testing.T, d *disk.Disk, log int, want api.Errno) {
	t.Helper()
	if w, e := wal.Open(d, log); w != nil || e != want {
		t.Errorf("Open(disk, %d) = %v, %d; want nil, %d", log, w, e, want)
	}
}

func wantSize(t *testing.T, w *wal.Wal, blocks, size, log int) {
	t.Helper()
	if n, b := w.Size(); n != blocks || b != size || w.Log() != log {
		t.Errorf("Size, Log = %d, %d, %d; want %d, %d, %d", n, b, w.Log(), blocks, size, log)
	}
}

func wantErrno(t *testing.T, what string, got, want api.Errno) {
	t.Helper()
	if got != want {
		t.Errorf("%s: %d; want %d", what, got, want)
	}
}

func wantBlock(t *testing.T, w *wal.Wal, block int, want []byte) {
	t.Helper()
	if got, e := w.Read(block); !bytes.Equal(got, want) || e != api.OK {
		t.Errorf("Read(%d) = %x, %d; want %x, OK", block, got, e, want)
	}
}

func wantNoRead(t *testing.T, w *wal.Wal, block int, want api.Errno) {
	t.Helper()
	if got, e := w.Read(block); len(got) != 0 || e != want {
		t.Errorf("Read(%d) = %x, %d; want nothing, %d", block, got, e, want)
	}
}

// wantLeft: do does no deed, and the disk has what it had.
func wantLeft(t *testing.T, what string, d *disk.Disk, do func()) {
	t.Helper()
	was, deeds := imageOf(t, d), d.Deeds()
	do()
	if d.Deeds() != deeds {
		t.Errorf("%s: %d deeds; want none", what, d.Deeds()-deeds)
	}
	wantImage(t, what, d, was)
}

func TestP6_1OpenAtTheEdges(t *testing.T) {
	for _, c := range []struct{ sectors, size, log, blocks int }{
		{3, 16, 1, 1}, {4, 16, 1, 2}, {4, 16, 2, 1}, {8, 16, 2, 5},
		{6, 16, 4, 1}, {100, 16, 4, 95},
		{7, 17, 4, 2}, {7, 18, 5, 1}, {100, 18, 5, 94}, {100, 20, 5, 94}, {100, 21, 6, 93},
		{100, 4096, 98, 1}, {1366, 4096, 1364, 1}, {1367, 4095, 1364, 2}, {1365, 4094, 1363, 1},
		{65536, 16, 1, 65534}, {65536, 16, 4, 65531},
	} {
		d := newDisk(t, c.sectors, c.size)
		w := open(t, d, c.log)
		wantSize(t, w, c.blocks, c.size, c.log)
		wantNoRead(t, w, c.blocks, api.ErrArg)
		wantBlock(t, w, c.blocks-1, make([]byte, c.size))
		if d.Deeds() != 0 {
			t.Errorf("%v: %d deeds where no commit is set", c, d.Deeds())
		}
	}
}

func TestP6_1OpenRefusesOtherLogs(t *testing.T) {
	never := []int{0, -1, -2, -1000, math.MinInt, math.MinInt + 1, math.MinInt / 3, math.MaxInt, math.MaxInt - 1, math.MaxInt / 3, math.MaxInt/3 + 1, 6148914691236517205, 6148914691236517206, 1 << 32, 1<<32 + 1}
	for _, c := range []struct {
		sectors, size int
		logs          []int
	}{
		{1, 16, []int{1, 2}}, {2, 16, []int{1, 2}}, {3, 16, []int{2, 3}}, {5, 16, []int{4}},
		{6, 16, []int{5}}, {8, 16, []int{5}}, {65536, 16, []int{5, 6, 65534, 65535, 65536}},
		{100, 17, []int{5}}, {100, 18, []int{6}}, {100, 20, []int{6}},
		{99, 4096, []int{98, 99}}, {65536, 4096, []int{1365, 1366}}, {1365, 4096, []int{1364}}, {65536, 4094, []int{1364}},
	} {
		d := newDisk(t, c.sectors, c.size)
		for _, log := range append(c.logs, never...) {
			wantNoOpen(t, d, log, api.ErrArg)
		}
		if d.Deeds() != 0 {
			t.Errorf("%v: %d deeds", c, d.Deeds())
		}
	}
}

// TestP6_1OpenTellsTheFirstError: ErrNil, then ErrArg, then ErrDown.
func TestP6_1OpenTellsTheFirstError(t *testing.T) {
	for _, log := range []int{-1, 0, 1, 2, 1364, 1365, math.MinInt, math.MaxInt} {
		wantNoOpen(t, nil, log, api.ErrNil)
	}
	d := newDisk(t, 8, 16)
	d.Crash(nil)
	for _, log := range []int{-1, 0, 5, 7, 8, math.MinInt, math.MaxInt} {
		wantNoOpen(t, d, log, api.ErrArg)
	}
	small := newDisk(t, 2, 16)
	small.Crash(nil)
	wantNoOpen(t, small, 1, api.ErrArg)
	for range 2 {
		wantNoOpen(t, d, 2, api.ErrDown)
	}
	d.On()
	wantSize(t, open(t, d, 2), 5, 16, 2)
}

// TestP6_1AnUnsetCommitIsLeft: whatever stands behind its first byte.
func TestP6_1AnUnsetCommitIsLeft(t *testing.T) {
	for _, first := range []byte{0x00, 0x02, 0x03, 0x10, 0x11, 0x80, 0x81, 0xfe, 0xff} {
		m := unlike(8, 16)
		m[0] = commitOf(16, []byte{first, 0, 2}, 0, 4)
		d := lay(t, m)
		wantLeft(t, "Open", d, func() {
			d.Arm(1, nil) // a deed would be cut
			w := open(t, d, 2)
			for block := range 5 {
				wantBlock(t, w, block, m[3+block])
			}
		})
	}
}

// setCommits are disks with a commit that is set, each with its log.
func setCommits() []struct {
	name string
	m    image
	log  int
} {
	type row = struct {
		name string
		m    image
		log  int
	}
	with := func(name string, sectors, log int, head []byte, blocks ...int) row {
		size := 16
		m := unlike(sectors, size)
		m[0] = commitOf(size, head, blocks...)
		return row{name, m, log}
	}
	rows := []row{
		with("no changes", 8, 2, []byte{1, 0, 0}, 0, 4),
		with("one", 8, 2, []byte{1, 0, 1}, 3, 4),
		with("as many as log", 8, 2, []byte{1, 0, 2}, 4, 0),
		with("as many as log, log 4", 12, 4, []byte{1, 0, 4}, 3, 1, 6, 0),
		with("one more than log", 8, 2, []byte{1, 0, 3}, 1, 2, 3),
		with("one more than log, and none behind", 8, 4, []byte{1, 0, 5}, 2, 1, 0),
		with("two more than log", 8, 2, []byte{1, 0, 4}, 4, 3, 2, 1),
		with("256", 12, 4, []byte{1, 1, 0}, 5, 4, 3, 2),
		with("65535", 12, 3, []byte{1, 255, 255}, 5, 4, 3, 2),
		with("the last block, and one behind it", 8, 2, []byte{1, 0, 2}, 4, 5),
		with("one behind the last block, and the last", 8, 2, []byte{1, 0, 2}, 5, 4),
		with("blocks that are sectors but no blocks", 8, 4, []byte{1, 0, 4}, 3, 4, 2, 7),
		with("no block at all", 8, 3, []byte{1, 0, 3}, 4, 1<<24-1, 65536),
		with("a block that there would be by its lower bytes", 8, 2, []byte{1, 0, 2}, 1<<16, 1<<8+1),
		with("two of one block", 8, 2, []byte{1, 0, 2}, 3, 3),
		with("three of one block, one between", 12, 4, []byte{1, 0, 4}, 3, 3, 1, 3),
		with("of one block, with other bytes behind them", 8, 2, []byte{1, 0, 1}, 0, 1, 2, 3),
		with("just one block", 4, 2, []byte{1, 0, 2}, 0, 1),
	}
	great := unlike(700, 64)
	great[0] = commitOf(64, []byte{1, 0, 3}, 258, 513, 695)
	full := unlike(20, 18)
	full[0] = commitOf(18, []byte{1, 0, 5}, 13, 4, 0, 1, 2)
	return append(rows, row{"blocks beyond a byte", great, 3}, row{"a full sector", full, 5})
}

// TestP6_1ASetCommitIsDone: all deeds, in their order, and what the disk and the wal have behind them.
func TestP6_1ASetCommitIsDone(t *testing.T) {
	for _, c := range setCommits() {
		want := openDeeds(c.m, c.log)
		d := lay(t, c.m)
		deeds := d.Deeds()
		w := open(t, d, c.log)
		if d.Deeds()-deeds != len(want) {
			t.Errorf("%s: %d deeds; want %d", c.name, d.Deeds()-deeds, len(want))
		}
		wantSize(t, w, len(c.m)-1-c.log, len(c.m[0]), c.log)
		done := c.m.behind(want)
		for block := range len(c.m) - 1 - c.log {
			wantBlock(t, w, block, done[1+c.log+block])
		}
		d.Crash(nil) // all of it was flushed
		d.On()
		wantImage(t, c.name, d, done)
	}
}

// TestP6_1AnOpeningThatIsCut: at each deed, with each way of keeping.
func TestP6_1AnOpeningThatIsCut(t *testing.T) {
	for _, c := range setCommits() {
		want := openDeeds(c.m, c.log)
		for n := 1; n <= len(want); n++ {
			done, cache := cutAt(want, n)
			for _, keep := range keeps(len(cache)) {
				d := lay(t, c.m)
				d.Arm(n, keep)
				wantNoOpen(t, d, c.log, api.ErrDown)
				wantNoOpen(t, d, c.log, api.ErrDown)
				d.On()
				wantImage(t, c.name, d, c.m.behind(done).behind(kept(cache, keep)))
			}
		}
	}
}

// TestP6_1OpenOfWordsTold: a commit spelt out byte by byte.
func TestP6_1OpenOfWordsTold(t *testing.T) {
	a, b, x := filled(0xaa, 16), filled(0xbb, 16), filled(0x77, 16)
	m := image{{1, 0, 2, 0, 0, 4, 0, 0, 0, 9, 9, 9, 9, 9, 9, 9}, a, b, x, x, x, x, x}
	d := lay(t, m)
	open(t, d, 2)
	wantImage(t, "opened", d, image{make([]byte, 16), a, b, b, x, x, x, a})
}

func TestP6_1ReadAtTheEdges(t *testing.T) {
	for _, c := range []struct{ sectors, log int }{{3, 1}, {8, 2}, {6, 4}, {300, 3}} {
		m := unlike(c.sectors, 16)
		d := lay(t, m)
		w := open(t, d, c.log)
		blocks := c.sectors - 1 - c.log
		wantLeft(t, "Read", d, func() {
			for block := range blocks {
				wantBlock(t, w, block, m[1+c.log+block])
			}
			for _, block := range []int{-1, -2, -c.log, -1 - c.log, blocks, blocks + 1, c.sectors, 1 << 24, 1 << 32, math.MinInt, math.MaxInt, math.MaxInt - c.log} {
				wantNoRead(t, w, block, api.ErrArg)
			}
			wantBlock(t, w, 0, m[1+c.log])
		})
	}
}

func TestP6_1SizeStaysWhateverIsDone(t *testing.T) {
	d := newDisk(t, 9, 19)
	w := open(t, d, 3)
	same := func() {
		t.Helper()
		wantSize(t, w, 5, 19, 3)
	}
	same()
	wantErrno(t, "Commit", w.Commit(changes(19, 0, 4)), api.OK)
	same()
	wantErrno(t, "Commit", w.Commit(changes(19, 5)), api.ErrArg)
	same()
	d.Crash(nil)
	same()
	wantNoRead(t, w, 0, api.ErrDown)
	same()
	d.On()
	same()
}

func TestP6_1NilWal(t *testing.T) {
	var w *wal.Wal
	for range 2 {
		wantSize(t, w, 0, 0, 0)
		for _, block := range []int{-1, 0, 1, math.MinInt, math.MaxInt} {
			wantNoRead(t, w, block, api.ErrNil)
			wantErrno(t, "Commit", w.Commit([]api.Change{{Sector: block}}), api.ErrNil)
		}
		for _, l := range [][]api.Change{nil, {}, changes(16, 0), changes(16, 0, 0), make([]api.Change, 5000)} {
			wantErrno(t, "Commit", w.Commit(l), api.ErrNil)
		}
	}
}

// wantDead: every call answers ErrDown and does nothing, whatever it is given; opened anew, all is well.
func wantDead(t *testing.T, d *disk.Disk, w *wal.Wal) {
	t.Helper()
	dead := func() {
		t.Helper()
		for _, block := range []int{-1, 0, 4, 5, math.MinInt, math.MaxInt} {
			wantNoRead(t, w, block, api.ErrDown)
		}
		for _, l := range [][]api.Change{nil, {}, changes(16, 0), changes(16, 0, 4), changes(16, 0, 1, 2), changes(16, 0, 0), changes(16, 5), changes(15, 1)} {
			wantErrno(t, "Commit", w.Commit(l), api.ErrDown)
		}
	}
	dead()
	d.On()
	wantLeft(t, "a dead wal", d, dead)
	other := open(t, d, 2)
	wantErrno(t, "Commit anew", other.Commit(changes(16, 2)), api.OK)
	wantBlock(t, other, 2, changes(16, 2)[0].Bytes)
	wantLeft(t, "a dead wal beside a new one", d, dead)
}

func TestP6_1DownForEver(t *testing.T) {
	d := newDisk(t, 8, 16)
	w := open(t, d, 2)
	d.Crash(nil)
	wantNoRead(t, w, 4, api.ErrDown)
	wantDead(t, d, w)

	d = newDisk(t, 8, 16)
	w = open(t, d, 2)
	d.Crash(nil)
	wantErrno(t, "Commit without power", w.Commit(changes(16, 1)), api.ErrDown)
	wantDead(t, d, w)

	for n := 1; n <= 10; n++ {
		d = newDisk(t, 8, 16)
		w = open(t, d, 2)
		d.Arm(n, nil)
		wantErrno(t, "Commit that is cut", w.Commit(changes(16, 1, 3)), api.ErrDown)
		wantDead(t, d, w)
	}
}

// TestP6_1DownIsTheCallsOwn: a wal that did not answer ErrDown goes on when there is power again, and tells other errors without it.
func TestP6_1DownIsTheCallsOwn(t *testing.T) {
	d := newDisk(t, 8, 16)
	w := open(t, d, 2)
	wantErrno(t, "Commit", w.Commit(changes(16, 0, 4)), api.OK)
	d.Crash(nil)
	wantNoRead(t, w, -1, api.ErrArg)
	wantNoRead(t, w, 5, api.ErrArg)
	wantErrno(t, "of no block", w.Commit(changes(16, 5)), api.ErrArg)
	wantErrno(t, "too few bytes", w.Commit(changes(15, 0)), api.ErrArg)
	wantErrno(t, "too many", w.Commit(changes(16, 0, 1, 2)), api.ErrLog)
	wantErrno(t, "none", w.Commit(nil), api.OK)
	d.On()
	wantBlock(t, w, 0, changes(16, 0, 4)[0].Bytes)
	wantErrno(t, "Commit", w.Commit(changes(16, 4, 0)), api.OK)
	wantBlock(t, w, 0, changes(16, 4, 0)[1].Bytes)
}

// TestP6_2Examples: the chapter's own.
func TestP6_2Examples(t *testing.T) {
	a, b := filled('a', 16), filled('b', 16)
	w := open(t, newDisk(t, 8, 16), 2)
	wantErrno(t, "Commit", w.Commit([]api.Change{{Sector: 0, Bytes: a}, {Sector: 4, Bytes: b}}), api.OK)
	wantBlock(t, w, 0, a)
	wantBlock(t, w, 4, b)
	wantErrno(t, "three", w.Commit([]api.Change{{Sector: 0, Bytes: a}, {Sector: 1, Bytes: a}, {Sector: 2, Bytes: a}}), api.ErrLog)
	wantErrno(t, "of block 5", w.Commit([]api.Change{{Sector: 5, Bytes: a}}), api.ErrArg)
}

// commits are what may be committed on disks of all kinds.
func commits() []struct {
	sectors, size, log int
	blocks             []int
} {
	return []struct {
		sectors, size, log int
		blocks             []int
	}{
		{3, 16, 1, nil}, {3, 16, 1, []int{0}},
		{8, 16, 2, []int{}}, {8, 16, 2, []int{4}}, {8, 16, 2, []int{0, 4}}, {8, 16, 2, []int{4, 0}}, {8, 16, 2, []int{3, 2}},
		{9, 16, 4, []int{3, 0, 2, 1}}, {9, 16, 4, []int{0}}, {9, 16, 4, []int{1, 2, 3}},
		{11, 18, 5, []int{4, 3, 2, 1, 0}}, {11, 17, 4, []int{5, 1}},
		{700, 32, 3, []int{258, 513, 695}}, {700, 32, 3, []int{694, 0, 256}},
	}
}

// TestP6_2EachDeed: how many there are, and what lies on the disk when each of them is cut, with each way of keeping.
func TestP6_2EachDeed(t *testing.T) {
	for _, c := range commits() {
		m, l := unlike(c.sectors, c.size), changes(c.size, c.blocks...)
		want := commitDeeds(c.size, c.log, l)
		d := lay(t, m)
		w, deeds := open(t, d, c.log), d.Deeds()
		wantErrno(t, "Commit", w.Commit(l), api.OK)
		if d.Deeds()-deeds != len(want) {
			t.Errorf("%v: %d deeds; want %d", c, d.Deeds()-deeds, len(want))
		}
		for k, change := range l {
			wantBlock(t, w, c.blocks[k], change.Bytes)
		}
		d.Crash(nil) // all of it was flushed
		d.On()
		wantImage(t, "committed", d, m.behind(want))
		for n := 1; n <= len(want); n++ {
			done, cache := cutAt(want, n)
			for _, keep := range keeps(len(cache)) {
				d := lay(t, m)
				w := open(t, d, c.log)
				d.Arm(n, keep)
				wantErrno(t, "Commit that is cut", w.Commit(l), api.ErrDown)
				d.On()
				wantImage(t, "cut", d, m.behind(done).behind(kept(cache, keep)))
			}
		}
	}
}

// TestP6_2CommitOfWordsTold: what the log and the commit have, spelt out byte by byte.
func TestP6_2CommitOfWordsTold(t *testing.T) {
	a, b, x := filled(0xaa, 16), filled(0xbb, 16), filled(0x77, 16)
	d := lay(t, image{x, x, x, x, x, x, x, x})
	w := open(t, d, 2)
	d.Arm(6, nil) // the first write behind the commit
	wantErrno(t, "Commit", w.Commit([]api.Change{{Sector: 4, Bytes: a}, {Sector: 0, Bytes: b}}), api.ErrDown)
	d.On()
	wantImage(t, "cut", d, image{{1, 0, 2, 0, 0, 4, 0, 0, 0, 0, 0, 0, 0, 0, 0, 0}, a, b, x, x, x, x, x})
}

// TestP6_2CommitsBehindEachOther: what an earlier one left in the log and the commit is not seen.
func TestP6_2CommitsBehindEachOther(t *testing.T) {
	m := unlike(9, 16)
	d := lay(t, m)
	w := open(t, d, 4)
	for round, blocks := range [][]int{{0, 1, 2, 3}, {2}, {3, 0}, nil, {1, 3, 2}, {0}} {
		l := changes(16, blocks...)
		for k := range l {
			l[k].Bytes[5] = byte(round)
		}
		wantErrno(t, "Commit", w.Commit(l), api.OK)
		m = m.behind(commitDeeds(16, 4, l))
		wantImage(t, "committed", d, m)
		w = open(t, d, 4)
		wantImage(t, "opened", d, m)
	}
}

func TestP6_2CommitRefusesWrongChanges(t *testing.T) {
	d := lay(t, unlike(10, 16))
	w := open(t, d, 4) // five blocks
	good := func() []api.Change { return changes(16, 0, 3, 1) }
	refused := func(what string, l []api.Change) {
		t.Helper()
		wantLeft(t, what, d, func() { wantErrno(t, what, w.Commit(l), api.ErrArg) })
	}
	for place := range 3 {
		for _, block := range []int{-1, -2, -5, 5, 6, 9, 10, 1 << 8, 1 << 16, 1 << 24, 1<<24 + 4, 1 << 32, 1<<32 + 4, math.MinInt, math.MaxInt} {
			l := good()
			l[place].Sector = block
			refused("of no block", l)
			refused("of no block, alone", l[place:place+1])
		}
		for _, size := range []int{0, 1, 15, 17, 32, 4096} {
			l := good()
			l[place].Bytes = make([]byte, size)
			refused("of other bytes", l)
			refused("of other bytes, alone", l[place:place+1])
		}
		l := good()
		l[place].Bytes = nil
		refused("of no bytes", l)
	}
	refused("two of one block", changes(16, 2, 2))
	refused("two of one block, the first and the last", changes(16, 4, 1, 2, 4))
	refused("two of one block, behind another", changes(16, 0, 4, 4))
	refused("two of block 0", changes(16, 0, 1, 0))
	same := changes(16, 2)
	refused("one change twice", append(same, same[0]))
	wantErrno(t, "Commit behind these", w.Commit(good()), api.OK)
}

// TestP6_2CommitTellsTheFirstError: ErrArg, then ErrLog, then OK for none.
func TestP6_2CommitTellsTheFirstError(t *testing.T) {
	for _, log := range []int{1, 2, 3, 4} {
		d := lay(t, unlike(12, 16))
		w := open(t, d, log)
		blocks, _ := w.Size()
		wantLeft(t, "Commit", d, func() {
			for count := log + 1; count <= blocks; count++ {
				wantErrno(t, "more than log", w.Commit(changes(16, upTo(count)...)), api.ErrLog)
				for place := range count {
					l := changes(16, upTo(count)...)
					l[place].Sector = blocks
					wantErrno(t, "more than log, one of no block", w.Commit(l), api.ErrArg)
					l = changes(16, upTo(count)...)
					l[place].Bytes = l[place].Bytes[:15]
					wantErrno(t, "more than log, one of few bytes", w.Commit(l), api.ErrArg)
					l = changes(16, upTo(count)...)
					l[place].Sector = (place + 1) % count
					wantErrno(t, "more than log, two of one block", w.Commit(l), api.ErrArg)
				}
			}
			wantErrno(t, "more than blocks", w.Commit(changes(16, upTo(blocks+1)...)), api.ErrArg)
			wantErrno(t, "many of one block", w.Commit(make([]api.Change, 100000)), api.ErrArg)
			wantErrno(t, "none", w.Commit(nil), api.OK)
			wantErrno(t, "none", w.Commit([]api.Change{}), api.OK)
		})
		wantErrno(t, "as many as log", w.Commit(changes(16, upTo(log)...)), api.OK)
	}
}

// TestP6_2TheGreatestLog: a commit that fills its sector, with numbers of two bytes.
func TestP6_2TheGreatestLog(t *testing.T) {
	const size, log = 4096, 1364
	var blocks []int
	for k := range log {
		blocks = append(blocks, 7*k%1500)
	}
	m, l := unlike(1+log+1500, size), changes(size, blocks...)
	want := commitDeeds(size, log, l)
	for _, n := range []int{log, log + 1, log + 2, log + 3, log + 4, 2*log + 3, 2*log + 4, 2*log + 5, 2*log + 6} {
		done, cache := cutAt(want, n)
		keep := make([]bool, len(cache))
		for place := range keep {
			keep[place] = place%3 != 1
		}
		d := lay(t, m)
		w := open(t, d, log)
		d.Arm(n, keep)
		wantErrno(t, "Commit that is cut", w.Commit(l), api.ErrDown)
		d.On()
		now := m.behind(done).behind(kept(cache, keep))
		wantImage(t, "cut", d, now)
		open(t, d, log)
		wantImage(t, "opened anew", d, now.behind(openDeeds(now, log)))
	}
	d := lay(t, m)
	w := open(t, d, log)
	wantErrno(t, "one more", w.Commit(changes(size, upTo(log+1)...)), api.ErrLog)
	wantErrno(t, "Commit", w.Commit(l), api.OK)
	wantImage(t, "committed", d, m.behind(want))
}

func TestP6_2TheGreatestDisk(t *testing.T) {
	d := newDisk(t, 65536, 16)
	w := open(t, d, 1)
	l := changes(16, 65533)
	d.Arm(4, nil) // the commit was written, but is not kept
	wantErrno(t, "Commit that is cut", w.Commit(l), api.ErrDown)
	d.On()
	w = open(t, d, 1)
	wantBlock(t, w, 65533, make([]byte, 16))
	d.Arm(4, []bool{true})
	wantErrno(t, "Commit that is cut", w.Commit(l), api.ErrDown)
	d.On()
	if b, e := d.Read(0); e != api.OK || !bytes.Equal(b, commitOf(16, []byte{1, 0, 1, 0, 0xff, 0xfd})) {
		t.Errorf("the commit has %x, %d", b, e)
	}
	w = open(t, d, 1)
	wantBlock(t, w, 65533, l[0].Bytes)
	wantBlock(t, w, 65532, make([]byte, 16))
	wantErrno(t, "of no block", w.Commit(changes(16, 65534)), api.ErrArg)
}

// blocksOf are an image's blocks.
func blocksOf(m image, log int) image { return m[1+log:] }

// wantWhole: opened anew, the disk is as this says; opened twice, it is as opened once; and it takes a Commit.
func wantWhole(t *testing.T, d *disk.Disk, log int, want image) {
	t.Helper()
	d.On()
	w := open(t, d, log)
	for block, b := range want {
		wantBlock(t, w, block, b)
	}
	if got := imageOf(t, d); got[0][0] == 1 {
		t.Errorf("opened anew, the commit is set")
	}
	d.Crash(nil)
	d.On()
	wantLeft(t, "opened twice", d, func() { w = open(t, d, log) })
	for block, b := range want {
		wantBlock(t, w, block, b)
	}
	last := changes(len(want[0]), len(want)-1)
	wantErrno(t, "Commit anew", w.Commit(last), api.OK)
	wantBlock(t, w, len(want)-1, last[0].Bytes)
}

// whichWay says what the blocks are to be when the n-th deed of a Commit of so many changes is cut: as they were till the commit's write is kept, then as they are to be.
func whichWay(count, n int, keep []bool) (changed bool) {
	commitWrite := count + 2
	if n < commitWrite {
		return false
	}
	return n > commitWrite+1 || len(keep) > 0 && keep[0]
}

// TestP6_3CutInACommit: at each deed, with each way of keeping, opened anew.
func TestP6_3CutInACommit(t *testing.T) {
	for _, c := range commits() {
		m, l := unlike(c.sectors, c.size), changes(c.size, c.blocks...)
		want := commitDeeds(c.size, c.log, l)
		for n := 1; n <= len(want); n++ {
			_, cache := cutAt(want, n)
			for _, keep := range keeps(len(cache)) {
				d := lay(t, m)
				w := open(t, d, c.log)
				d.Arm(n, keep)
				wantErrno(t, "Commit that is cut", w.Commit(l), api.ErrDown)
				whole := blocksOf(m, c.log)
				if whichWay(len(l), n, keep) {
					whole = blocksOf(m.behind(want), c.log)
				}
				wantWhole(t, d, c.log, whole)
			}
		}
	}
}

// TestP6_3CutInOpening: at each deed of the opening behind a Commit that was cut, and of the opening behind that, with each way of keeping.
func TestP6_3CutInOpening(t *testing.T) {
	const size, log = 16, 3
	m, l := unlike(8, size), changes(size, 3, 0, 2)
	want := commitDeeds(size, log, l)
	was, made := blocksOf(m, log), blocksOf(m.behind(want), log)
	var opened func(m image, depth int, whole image)
	opened = func(m image, depth int, whole image) {
		wantWhole(t, lay(t, m), log, whole)
		if depth == 0 || t.Failed() {
			return
		}
		deeds := openDeeds(m, log)
		for n := 1; n <= len(deeds); n++ {
			_, cache := cutAt(deeds, n)
			for _, keep := range keeps(len(cache)) {
				d := lay(t, m)
				d.Arm(n, keep)
				wantNoOpen(t, d, log, api.ErrDown)
				d.On()
				opened(imageOf(t, d), depth-1, whole)
			}
		}
	}
	for n := 1; n <= len(want); n++ {
		_, cache := cutAt(want, n)
		for _, keep := range keeps(len(cache)) {
			d := lay(t, m)
			w := open(t, d, log)
			d.Arm(n, keep)
			wantErrno(t, "Commit that is cut", w.Commit(l), api.ErrDown)
			d.On()
			whole := was
			if whichWay(len(l), n, keep) {
				whole = made
			}
			opened(imageOf(t, d), 2, whole)
		}
	}
}

func someKeep(chance *rand.Rand) []bool {
	keep := make([]bool, chance.Intn(6))
	for k := range keep {
		keep[k] = chance.Intn(2) == 0
	}
	return keep
}

// someChanges are to blocks that are all unlike.
func someChanges(chance *rand.Rand, blocks, size, most int) []api.Change {
	var l []api.Change
	for _, block := range chance.Perm(blocks)[:chance.Intn(min(blocks, most)+1)] {
		b := make([]byte, size)
		chance.Read(b)
		l = append(l, api.Change{Sector: block, Bytes: b})
	}
	return l
}

// openByChance opens anew, with some openings that are cut ahead.
func openByChance(t *testing.T, chance *rand.Rand, d *disk.Disk, log int) *wal.Wal {
	t.Helper()
	for range 100 {
		d.On()
		if chance.Intn(2) == 0 {
			d.Arm(1+chance.Intn(8), someKeep(chance))
		}
		w, e := wal.Open(d, log)
		if e == api.OK {
			d.Arm(0, nil)
			return w
		}
		if w != nil || e != api.ErrDown || d.Up() {
			t.Fatalf("Open = %v, %d; want nil, ErrDown", w, e)
		}
	}
	t.Fatalf("no opening was left uncut")
	return nil
}

// TestP6_3LongRunsByChance: behind every Commit all blocks are as it makes them, or, if it was cut, as they were.
func TestP6_3LongRunsByChance(t *testing.T) {
	chance := rand.New(rand.NewSource(63))
	for range 40 {
		log, size := 1+chance.Intn(4), 16+chance.Intn(8)
		d := newDisk(t, 1+log+1+chance.Intn(6), size)
		w := openByChance(t, chance, d, log)
		blocks, _ := w.Size()
		now := image{}
		for range blocks {
			now = append(now, make([]byte, size))
		}
		for step := range 200 {
			l := someChanges(chance, blocks, size, log)
			made := slices.Clone(now)
			for _, c := range l {
				made[c.Sector] = c.Bytes
			}
			d.Arm(chance.Intn(16), someKeep(chance))
			e := w.Commit(l)
			if e == api.ErrDown {
				w = openByChance(t, chance, d, log)
			}
			d.Arm(0, nil)
			got := blocksOf(imageOf(t, d), log)
			if !got.equal(made) && (e == api.OK || !got.equal(now)) || e != api.OK && e != api.ErrDown {
				t.Fatalf("step %d: Commit = %d: %x; was %x, to be %x", step, e, got, now, made)
			}
			now = got
			for block := range blocks {
				wantBlock(t, w, block, now[block])
			}
		}
	}
}

// TestR2WhatIsGivenIsLeft: neither the list nor the bytes nor the room behind them is written into.
func TestR2WhatIsGivenIsLeft(t *testing.T) {
	d := newDisk(t, 8, 16)
	w := open(t, d, 2)
	for _, blocks := range [][]int{{0}, {4, 1}, {1, 1}, {5, 0}, {0, 1, 2}} {
		for cut := range 12 {
			room := filled(0xcc, 32*len(blocks)+32)
			l := make([]api.Change, len(blocks)+2)
			for k := range l {
				l[k] = api.Change{Sector: 77}
			}
			for k, block := range blocks {
				l[k] = api.Change{Sector: block, Bytes: room[32*k : 32*k+16]}
			}
			d.Arm(cut, []bool{true})
			w.Commit(l[:len(blocks)])
			d.On()
			w = open(t, d, 2)
			if !bytes.Equal(room, filled(0xcc, len(room))) {
				t.Errorf("the bytes were written into: %x", room)
			}
			for k, c := range l {
				if k < len(blocks) && (c.Sector != blocks[k] || len(c.Bytes) != 16) || k >= len(blocks) && (c.Sector != 77 || c.Bytes != nil) {
					t.Errorf("the list was written into: %v", l)
				}
			}
		}
	}
}

// TestR2WhatIsGivenIsNotKept: a change of the list and its bytes behind the call is not seen, then or by an opening.
func TestR2WhatIsGivenIsNotKept(t *testing.T) {
	for cut := range 11 {
		d := newDisk(t, 8, 16)
		w := open(t, d, 2)
		l, same := changes(16, 3, 1), changes(16, 3, 1)
		d.Arm(cut, []bool{true, true})
		e := w.Commit(l)
		for k := range l {
			copy(l[k].Bytes, filled(0xee, 16))
			l[k].Sector = 0
		}
		if e == api.ErrDown {
			d.On()
			w = open(t, d, 2)
		}
		wantBlock(t, w, 0, make([]byte, 16))
		if cut == 0 || cut >= 4 {
			wantBlock(t, w, 3, same[0].Bytes)
			wantBlock(t, w, 1, same[1].Bytes)
		} else {
			wantBlock(t, w, 3, make([]byte, 16))
			wantBlock(t, w, 1, make([]byte, 16))
		}
	}
}

// TestR2WhatComesOutIsNew: a change of what was read is not seen by the wal, the disk or another answer.
func TestR2WhatComesOutIsNew(t *testing.T) {
	d := newDisk(t, 8, 16)
	w := open(t, d, 2)
	l := changes(16, 0, 4)
	wantErrno(t, "Commit", w.Commit(l), api.OK)
	m := imageOf(t, d)
	for block := range 5 {
		one, _ := w.Read(block)
		other, _ := w.Read(block)
		one = one[:cap(one)]
		for k := range one {
			one[k] = 0xdd
		}
		if !bytes.Equal(other, m[3+block]) {
			t.Errorf("block %d: a change of one answer is seen in another: %x", block, other)
		}
		wantBlock(t, w, block, m[3+block])
	}
	wantImage(t, "behind a change of what was read", d, m)
	if !bytes.Equal(l[0].Bytes, m[3]) || !bytes.Equal(l[1].Bytes, m[7]) {
		t.Errorf("a change of what was read is seen in what was committed: %v", l)
	}
}

// TestR2WalsAreApart: what is done to one is not seen by another, on another disk.
func TestR2WalsAreApart(t *testing.T) {
	d, f := newDisk(t, 8, 16), newDisk(t, 9, 16)
	one, other := open(t, d, 2), open(t, f, 3)
	wantErrno(t, "Commit", one.Commit(changes(16, 0, 1)), api.OK)
	wantBlock(t, other, 0, make([]byte, 16))
	wantSize(t, one, 5, 16, 2)
	wantSize(t, other, 5, 16, 3)
	d.Crash(nil)
	wantNoRead(t, one, 0, api.ErrDown)
	wantErrno(t, "Commit", other.Commit(changes(16, 2, 1, 0)), api.OK)
	wantBlock(t, other, 1, changes(16, 2, 1)[1].Bytes)
}
