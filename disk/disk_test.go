package disk_test

import (
	"bytes"
	"math"
	"math/rand"
	"slices"
	"testing"

	"chandlery/api"
	"chandlery/disk"
)

const (
	mostSectors = 65536
	leastBytes  = 16
	mostBytes   = 4096
)

// model is the chapter's words, told the other way round than the program: what is done, and beside it the writes that wait.
type model struct {
	bytes   int
	done    [][]byte
	waiting []api.Change
	up      bool
	deeds   int
	cutAt   int // which deed, counted as deeds is; 0: none
	keep    []bool
}

func newModel(sectors, size int) *model {
	m := &model{bytes: size, up: true}
	for range sectors {
		m.done = append(m.done, make([]byte, size))
	}
	return m
}

func (m *model) read(sector int) ([]byte, api.Errno) {
	if !m.up {
		return nil, api.ErrDown
	}
	if sector < 0 || sector >= len(m.done) {
		return nil, api.ErrArg
	}
	b := m.done[sector]
	for _, w := range m.waiting {
		if w.Sector == sector {
			b = w.Bytes
		}
	}
	return b, api.OK
}

func (m *model) write(sector int, b []byte) api.Errno {
	if !m.up {
		return api.ErrDown
	}
	if sector < 0 || sector >= len(m.done) || len(b) != m.bytes {
		return api.ErrArg
	}
	m.deeds++
	m.waiting = append(m.waiting, api.Change{Sector: sector, Bytes: bytes.Clone(b)})
	if m.deeds == m.cutAt {
		m.crash(m.keep)
		return api.ErrDown
	}
	return api.OK
}

func (m *model) flush() api.Errno {
	if !m.up {
		return api.ErrDown
	}
	m.deeds++
	if m.deeds == m.cutAt {
		m.crash(m.keep)
		return api.ErrDown
	}
	for _, w := range m.waiting {
		m.done[w.Sector] = w.Bytes
	}
	m.waiting = nil
	return api.OK
}

func (m *model) crash(keep []bool) {
	if !m.up {
		return
	}
	for place, w := range m.waiting {
		if place < len(keep) && keep[place] {
			m.done[w.Sector] = w.Bytes
		}
	}
	m.waiting, m.up = nil, false
}

func (m *model) arm(n int, keep []bool) {
	m.cutAt, m.keep = 0, slices.Clone(keep)
	if n >= 1 && n <= math.MaxInt-m.deeds {
		m.cutAt = m.deeds + n
	}
}

func (m *model) on() {
	m.up, m.cutAt = true, 0
}

// filled is a sector of one byte.
func filled(x byte, size int) []byte { return bytes.Repeat([]byte{x}, size) }

func newDisk(t *testing.T, sectors, size int) *disk.Disk {
	t.Helper()
	d, e := disk.New(sectors, size)
	if d == nil || e != api.OK {
		t.Fatalf("New(%d, %d) = %v, %d; want a disk, OK", sectors, size, d, e)
	}
	return d
}

func wantErrno(t *testing.T, what string, got, want api.Errno) {
	t.Helper()
	if got != want {
		t.Errorf("%s: %d; want %d", what, got, want)
	}
}

func wantWrite(t *testing.T, d *disk.Disk, sector int, x byte, want api.Errno) {
	t.Helper()
	_, size := d.Size()
	if got := d.Write(sector, filled(x, size)); got != want {
		t.Errorf("Write(%d, %02x..) = %d; want %d", sector, x, got, want)
	}
}

func wantFlush(t *testing.T, d *disk.Disk, want api.Errno) {
	t.Helper()
	wantErrno(t, "Flush", d.Flush(), want)
}

// wantSectors: the sectors from 0 on have these bytes, all through.
func wantSectors(t *testing.T, d *disk.Disk, want ...byte) {
	t.Helper()
	_, size := d.Size()
	for sector, x := range want {
		if got, e := d.Read(sector); !bytes.Equal(got, filled(x, size)) || e != api.OK {
			t.Errorf("Read(%d) = %x, %d; want %02x all through, OK", sector, got, e, x)
		}
	}
}

func wantNoRead(t *testing.T, d *disk.Disk, sector int, want api.Errno) {
	t.Helper()
	if got, e := d.Read(sector); len(got) != 0 || e != want {
		t.Errorf("Read(%d) = %x, %d; want nothing, %d", sector, got, e, want)
	}
}

func wantState(t *testing.T, d *disk.Disk, up bool, deeds int) {
	t.Helper()
	if d.Up() != up || d.Deeds() != deeds {
		t.Errorf("Up, Deeds = %v, %d; want %v, %d", d.Up(), d.Deeds(), up, deeds)
	}
}

// wantLike: all that the disk tells is what the model tells.
func wantLike(t *testing.T, d *disk.Disk, m *model) bool {
	t.Helper()
	sectors, size := d.Size()
	if sectors != len(m.done) || size != m.bytes || d.Up() != m.up || d.Deeds() != m.deeds {
		t.Errorf("Size, Up, Deeds = %d, %d, %v, %d; want %d, %d, %v, %d", sectors, size, d.Up(), d.Deeds(), len(m.done), m.bytes, m.up, m.deeds)
		return false
	}
	for sector := -1; sector <= len(m.done); sector++ {
		got, e := d.Read(sector)
		want, f := m.read(sector)
		if !bytes.Equal(got, want) || e != f {
			t.Errorf("Read(%d) = %x, %d; want %x, %d", sector, got, e, want, f)
			return false
		}
	}
	return true
}

func TestP5_1NewAtTheEdges(t *testing.T) {
	for _, sectors := range []int{1, 2, 100, mostSectors - 1, mostSectors} {
		for _, size := range []int{leastBytes, leastBytes + 1, 512, 1000, mostBytes - 1, mostBytes} {
			d := newDisk(t, sectors, size)
			if s, b := d.Size(); s != sectors || b != size {
				t.Errorf("Size = %d, %d; want %d, %d", s, b, sectors, size)
			}
			wantState(t, d, true, 0)
			for _, sector := range []int{0, sectors / 2, sectors - 1} {
				if b, e := d.Read(sector); !bytes.Equal(b, make([]byte, size)) || e != api.OK {
					t.Errorf("a new disk's sector %d = %x, %d", sector, b, e)
				}
			}
		}
	}
}

func TestP5_1NewRefusesOtherSizes(t *testing.T) {
	noSectors := []int{0, -1, -65536, mostSectors + 1, 2 * mostSectors, 1<<32 + 1, math.MinInt, math.MaxInt}
	noBytes := []int{leastBytes - 1, mostBytes + 1, 0, 1, -1, -16, -512, 1<<32 + 16, math.MinInt, math.MaxInt}
	refused := func(sectors, size int) {
		t.Helper()
		if d, e := disk.New(sectors, size); d != nil || e != api.ErrArg {
			t.Errorf("New(%d, %d) = %v, %d; want nil, ErrArg", sectors, size, d, e)
		}
	}
	for _, sectors := range noSectors {
		for _, size := range []int{leastBytes, 512, mostBytes} {
			refused(sectors, size)
		}
		for _, size := range noBytes {
			refused(sectors, size)
		}
	}
	for _, size := range noBytes {
		for _, sectors := range []int{1, 2, 1000, mostSectors} {
			refused(sectors, size)
		}
	}
}

func TestP5_1EverySectorIsNoughtAtFirst(t *testing.T) {
	d := newDisk(t, mostSectors, leastBytes)
	for sector := range mostSectors {
		if b, e := d.Read(sector); !bytes.Equal(b, make([]byte, leastBytes)) || e != api.OK {
			t.Fatalf("Read(%d) = %x, %d", sector, b, e)
		}
	}
}

// TestP5_1TheCacheIsEmptyAtFirst: there is nothing that a crash could do, whatever it keeps.
func TestP5_1TheCacheIsEmptyAtFirst(t *testing.T) {
	d := newDisk(t, 3, 16)
	d.Crash([]bool{true, true, true, true})
	d.On()
	wantSectors(t, d, 0, 0, 0)
	wantState(t, d, true, 0)
}

func TestP5_1SizeStaysWhateverIsDone(t *testing.T) {
	d := newDisk(t, 7, 19)
	same := func() {
		t.Helper()
		if s, b := d.Size(); s != 7 || b != 19 {
			t.Errorf("Size = %d, %d; want 7, 19", s, b)
		}
	}
	wantWrite(t, d, 6, 1, api.OK)
	same()
	wantFlush(t, d, api.OK)
	same()
	d.Crash(nil)
	same()
	d.On()
	same()
}

func TestP5_1NilDisk(t *testing.T) {
	var d *disk.Disk
	for range 2 {
		if s, b := d.Size(); s != 0 || b != 0 {
			t.Errorf("Size = %d, %d; want 0, 0", s, b)
		}
		for _, sector := range []int{-1, 0, 1, math.MinInt, math.MaxInt} {
			wantNoRead(t, d, sector, api.ErrNil)
			for _, b := range [][]byte{nil, {}, make([]byte, 16), make([]byte, 5000)} {
				wantErrno(t, "Write", d.Write(sector, b), api.ErrNil)
			}
		}
		wantFlush(t, d, api.ErrNil)
		wantState(t, d, false, 0)
		for _, keep := range [][]bool{nil, {}, {true, false}} {
			for _, n := range []int{-1, 0, 1, math.MaxInt} {
				d.Arm(n, keep)
			}
			d.Crash(keep)
		}
		d.On()
		wantState(t, d, false, 0)
	}
}

func TestP5_2ReadTellsTheLastWrite(t *testing.T) {
	d := newDisk(t, 3, 16)
	wantWrite(t, d, 1, 1, api.OK)
	wantSectors(t, d, 0, 1, 0)
	wantWrite(t, d, 1, 2, api.OK)
	wantSectors(t, d, 0, 2, 0)
	wantWrite(t, d, 0, 3, api.OK)
	wantWrite(t, d, 2, 4, api.OK)
	wantWrite(t, d, 1, 5, api.OK)
	wantSectors(t, d, 3, 5, 4)
	wantFlush(t, d, api.OK)
	wantSectors(t, d, 3, 5, 4)
	wantWrite(t, d, 1, 6, api.OK)
	wantSectors(t, d, 3, 6, 4)
	wantFlush(t, d, api.OK)
	wantSectors(t, d, 3, 6, 4)
}

// TestP5_2AllBytesOfASectorCount: the first, the last, and each in its place.
func TestP5_2AllBytesOfASectorCount(t *testing.T) {
	chance := rand.New(rand.NewSource(52))
	for _, size := range []int{16, 17, 4095, 4096} {
		d := newDisk(t, 2, size)
		b := make([]byte, size)
		chance.Read(b)
		b[0], b[size-1] = 1, 2
		wantErrno(t, "Write", d.Write(1, b), api.OK)
		for range 2 {
			if got, e := d.Read(1); !bytes.Equal(got, b) || e != api.OK {
				t.Errorf("%d bytes: Read = %x, %d; want %x", size, got, e, b)
			}
			wantSectors(t, d, 0)
			wantFlush(t, d, api.OK)
		}
	}
}

func TestP5_2SectorsAtTheEdges(t *testing.T) {
	for _, sectors := range []int{1, 2, 1000, mostSectors} {
		d := newDisk(t, sectors, 16)
		wantWrite(t, d, 0, 1, api.OK)
		wantWrite(t, d, sectors-1, 2, api.OK)
		deeds := d.Deeds()
		for _, sector := range []int{-1, sectors, sectors + 1, -sectors, 1 << 32, -1 << 32, math.MinInt, math.MaxInt} {
			wantNoRead(t, d, sector, api.ErrArg)
			wantWrite(t, d, sector, 3, api.ErrArg)
		}
		wantState(t, d, true, deeds)
		if b, e := d.Read(sectors - 1); !bytes.Equal(b, filled(2, 16)) || e != api.OK {
			t.Errorf("the last of %d sectors: %x, %d", sectors, b, e)
		}
	}
}

func TestP5_2WriteRefusesOtherLengths(t *testing.T) {
	for _, size := range []int{16, 17, 512, 4096} {
		d := newDisk(t, 2, size)
		wantWrite(t, d, 0, 7, api.OK)
		wantErrno(t, "Write of nil", d.Write(0, nil), api.ErrArg)
		for _, n := range []int{0, 1, size - 1, size + 1, 2 * size, 5000} {
			wantErrno(t, "Write of another length", d.Write(0, make([]byte, n)), api.ErrArg)
			wantErrno(t, "Write of another length, to no sector", d.Write(2, make([]byte, n)), api.ErrArg)
		}
		wantErrno(t, "Write of too few, with room", d.Write(0, make([]byte, size-1, 2*size)), api.ErrArg)
		wantSectors(t, d, 7, 0)
		wantState(t, d, true, 1)
	}
}

// TestP5_2ARefusedWriteIsNotInTheCache: it has no place that keep could name.
func TestP5_2ARefusedWriteIsNotInTheCache(t *testing.T) {
	d := newDisk(t, 2, 16)
	wantWrite(t, d, 0, 1, api.OK)
	wantWrite(t, d, 2, 2, api.ErrArg)
	wantErrno(t, "Write", d.Write(0, nil), api.ErrArg)
	wantWrite(t, d, 1, 3, api.OK)
	d.Crash([]bool{false, true})
	d.On()
	wantSectors(t, d, 0, 3)
}

func TestP5_2WithoutPower(t *testing.T) {
	d := newDisk(t, 2, 16)
	wantWrite(t, d, 0, 1, api.OK)
	wantFlush(t, d, api.OK)
	d.Crash(nil)
	for range 2 {
		for _, sector := range []int{-1, 0, 1, 2, math.MinInt, math.MaxInt} {
			wantNoRead(t, d, sector, api.ErrDown)
			for _, b := range [][]byte{nil, {}, make([]byte, 15), filled(9, 16), make([]byte, 17)} {
				wantErrno(t, "Write", d.Write(sector, b), api.ErrDown)
			}
		}
		wantFlush(t, d, api.ErrDown)
		wantState(t, d, false, 2)
	}
	d.On()
	wantSectors(t, d, 1, 0)
	wantState(t, d, true, 2)
}

func TestP5_2FlushDoesTheWritesInTheirOrder(t *testing.T) {
	d := newDisk(t, 2, 16)
	for _, x := range []byte{1, 2, 3} {
		wantWrite(t, d, 0, x, api.OK)
		wantWrite(t, d, 1, 10*x, api.OK)
	}
	wantFlush(t, d, api.OK)
	wantSectors(t, d, 3, 30)
	d.Crash([]bool{true, true, true, true})
	d.On()
	wantSectors(t, d, 3, 30)
}

// TestP5_2FlushEmptiesTheCache: places are counted from the first write behind it.
func TestP5_2FlushEmptiesTheCache(t *testing.T) {
	d := newDisk(t, 3, 16)
	wantWrite(t, d, 0, 1, api.OK)
	wantWrite(t, d, 1, 2, api.OK)
	wantFlush(t, d, api.OK)
	wantWrite(t, d, 0, 3, api.OK)
	wantWrite(t, d, 2, 4, api.OK)
	d.Crash([]bool{false, true, true, true})
	d.On()
	wantSectors(t, d, 1, 2, 4)
}

func TestP5_2FlushOfAnEmptyCache(t *testing.T) {
	d := newDisk(t, 1, 16)
	wantFlush(t, d, api.OK)
	wantFlush(t, d, api.OK)
	wantSectors(t, d, 0)
	wantState(t, d, true, 2)
	wantWrite(t, d, 0, 1, api.OK)
	wantFlush(t, d, api.OK)
	wantFlush(t, d, api.OK)
	wantSectors(t, d, 1)
	wantState(t, d, true, 5)
}

func TestP5_3TheChaptersExamples(t *testing.T) {
	d := newDisk(t, 2, 16)
	wantWrite(t, d, 0, 'a', api.OK)
	wantFlush(t, d, api.OK)
	wantWrite(t, d, 0, 'b', api.OK)
	wantWrite(t, d, 1, 'c', api.OK)
	d.Crash([]bool{false, true})
	d.On()
	wantSectors(t, d, 'a', 'c')
	d.Arm(1, []bool{true})
	wantWrite(t, d, 0, 'b', api.ErrDown)
	d.On()
	wantSectors(t, d, 'b', 'c')
}

// TestP5_3CrashKeepsWhatItIsTold: each choice of five writes, some of one sector, with a keep that is shorter or longer than the cache.
func TestP5_3CrashKeepsWhatItIsTold(t *testing.T) {
	writes := []api.Change{{Sector: 0}, {Sector: 1}, {Sector: 0}, {Sector: 0}, {Sector: 2}}
	for choice := range 1 << len(writes) {
		for length := range len(writes) + 4 {
			d := newDisk(t, 3, 16)
			wantWrite(t, d, 0, 100, api.OK)
			wantWrite(t, d, 1, 101, api.OK)
			wantFlush(t, d, api.OK)
			want := []byte{100, 101, 0}
			keep := make([]bool, length)
			for place := range keep {
				keep[place] = place >= len(writes) || choice>>place&1 == 1
			}
			for place, w := range writes {
				wantWrite(t, d, w.Sector, byte(place+1), api.OK)
				if place < length && keep[place] {
					want[w.Sector] = byte(place + 1)
				}
			}
			d.Crash(keep)
			wantState(t, d, false, 8)
			d.On()
			wantSectors(t, d, want...)
		}
	}
}

func TestP5_3CrashWithoutKeep(t *testing.T) {
	for _, keep := range [][]bool{nil, {}} {
		d := newDisk(t, 2, 16)
		wantWrite(t, d, 0, 1, api.OK)
		wantWrite(t, d, 0, 2, api.OK)
		wantWrite(t, d, 1, 3, api.OK)
		d.Crash(keep)
		d.On()
		wantSectors(t, d, 0, 0)
	}
}

// TestP5_3TwoWritesOfOneSector: the later one that is kept counts, and the earlier one alone may be kept.
func TestP5_3TwoWritesOfOneSector(t *testing.T) {
	for _, c := range []struct {
		keep []bool
		want byte
	}{{nil, 9}, {[]bool{true}, 1}, {[]bool{true, false}, 1}, {[]bool{false, true}, 2}, {[]bool{true, true}, 2}, {[]bool{false, false, true}, 9}} {
		d := newDisk(t, 1, 16)
		wantWrite(t, d, 0, 9, api.OK)
		wantFlush(t, d, api.OK)
		wantWrite(t, d, 0, 1, api.OK)
		wantWrite(t, d, 0, 2, api.OK)
		wantSectors(t, d, 2)
		d.Crash(c.keep)
		d.On()
		wantSectors(t, d, c.want)
	}
}

// TestP5_3CrashEmptiesTheCache: what was not kept does not come back.
func TestP5_3CrashEmptiesTheCache(t *testing.T) {
	d := newDisk(t, 2, 16)
	wantWrite(t, d, 0, 1, api.OK)
	wantWrite(t, d, 1, 2, api.OK)
	d.Crash([]bool{true})
	d.On()
	wantFlush(t, d, api.OK)
	wantSectors(t, d, 1, 0)
	d.Crash([]bool{true, true})
	d.On()
	wantSectors(t, d, 1, 0)
	wantWrite(t, d, 0, 3, api.OK)
	d.Crash([]bool{true})
	d.On()
	wantSectors(t, d, 3, 0)
}

func TestP5_3CrashWithoutPowerIsNothing(t *testing.T) {
	d := newDisk(t, 1, 16)
	wantWrite(t, d, 0, 1, api.OK)
	d.Crash(nil)
	d.Crash([]bool{true, true})
	wantState(t, d, false, 1)
	d.On()
	wantSectors(t, d, 0)
}

func TestP5_3ArmBelowOneCutsNothing(t *testing.T) {
	for _, n := range []int{0, -1, -2, math.MinInt} {
		d := newDisk(t, 1, 16)
		d.Arm(n, []bool{true})
		for x := range byte(5) {
			wantWrite(t, d, 0, x, api.OK)
			wantFlush(t, d, api.OK)
		}
		wantState(t, d, true, 10)
	}
}

// TestP5_3ArmCutsTheNthDeed: each of ten, and none ahead of it.
func TestP5_3ArmCutsTheNthDeed(t *testing.T) {
	for n := 1; n <= 10; n++ {
		d := newDisk(t, 1, 16)
		wantFlush(t, d, api.OK)
		d.Arm(n, nil)
		for k := 1; k <= 10; k++ {
			want := api.OK
			if k >= n {
				want = api.ErrDown
			}
			if k%3 == 0 {
				wantFlush(t, d, want)
			} else {
				wantWrite(t, d, 0, byte(k), want)
			}
			wantState(t, d, k < n, 1+min(k, n))
		}
	}
}

// TestP5_3AWriteThatIsCut is the cache's last one, and kept or not as its place says.
func TestP5_3AWriteThatIsCut(t *testing.T) {
	for _, c := range []struct {
		keep []bool
		want []byte
	}{
		{nil, []byte{7, 0}},
		{[]bool{true}, []byte{1, 0}},
		{[]bool{false, true}, []byte{7, 2}},
		{[]bool{true, true}, []byte{1, 2}},
		{[]bool{true, false, true}, []byte{3, 0}},
		{[]bool{false, false, true, true}, []byte{3, 0}},
		{[]bool{false, false, false, true}, []byte{7, 0}},
	} {
		d := newDisk(t, 2, 16)
		wantWrite(t, d, 0, 7, api.OK)
		wantFlush(t, d, api.OK)
		wantWrite(t, d, 0, 1, api.OK)
		d.Arm(2, c.keep)
		wantWrite(t, d, 1, 2, api.OK)
		wantWrite(t, d, 0, 3, api.ErrDown)
		wantState(t, d, false, 5)
		wantNoRead(t, d, 0, api.ErrDown)
		d.On()
		wantSectors(t, d, c.want...)
	}
}

// TestP5_3AFlushThatIsCut does but the writes that are kept.
func TestP5_3AFlushThatIsCut(t *testing.T) {
	for _, c := range []struct {
		keep []bool
		want []byte
	}{
		{nil, []byte{7, 0}},
		{[]bool{true}, []byte{1, 0}},
		{[]bool{false, true}, []byte{7, 2}},
		{[]bool{true, true, true}, []byte{1, 2}},
		{[]bool{false, false, true}, []byte{7, 0}},
	} {
		d := newDisk(t, 2, 16)
		wantWrite(t, d, 0, 7, api.OK)
		wantFlush(t, d, api.OK)
		wantWrite(t, d, 0, 1, api.OK)
		wantWrite(t, d, 1, 2, api.OK)
		d.Arm(1, c.keep)
		wantFlush(t, d, api.ErrDown)
		wantState(t, d, false, 5)
		d.On()
		wantSectors(t, d, c.want...)
		wantFlush(t, d, api.OK)
		wantSectors(t, d, c.want...)
	}
}

// TestP5_3RefusedCallsAreNoDeeds: neither Deeds nor Arm counts them, nor a Read.
func TestP5_3RefusedCallsAreNoDeeds(t *testing.T) {
	d := newDisk(t, 1, 16)
	refused := func() {
		t.Helper()
		wantWrite(t, d, 1, 5, api.ErrArg)
		wantWrite(t, d, -1, 5, api.ErrArg)
		wantErrno(t, "Write", d.Write(0, nil), api.ErrArg)
		wantNoRead(t, d, 1, api.ErrArg)
		d.Read(0)
		d.Size()
		d.Up()
	}
	d.Arm(3, []bool{true, true})
	refused()
	wantState(t, d, true, 0)
	wantWrite(t, d, 0, 1, api.OK)
	refused()
	wantState(t, d, true, 1)
	wantWrite(t, d, 0, 2, api.OK)
	refused()
	wantWrite(t, d, 0, 3, api.ErrDown)
	wantWrite(t, d, 0, 4, api.ErrDown)
	wantFlush(t, d, api.ErrDown)
	wantState(t, d, false, 3)
	d.On()
	wantSectors(t, d, 2)
	wantWrite(t, d, 0, 5, api.OK)
	wantState(t, d, true, 4)
}

// TestP5_3ArmedTwice: the later one says which deed is cut, and what is kept.
func TestP5_3ArmedTwice(t *testing.T) {
	for _, c := range []struct{ first, second, cut int }{{1, 3, 3}, {3, 1, 1}, {2, 2, 2}, {1, 0, 0}, {1, -5, 0}, {0, 2, 2}, {math.MaxInt, 1, 1}, {1, math.MaxInt, 0}} {
		d := newDisk(t, 1, 16)
		d.Arm(c.first, nil)
		d.Arm(c.second, []bool{true})
		cut := 0
		for k := 1; k <= 5 && cut == 0; k++ {
			if d.Write(0, filled(1, 16)) == api.ErrDown {
				cut = k
			}
		}
		if cut != c.cut {
			t.Errorf("Arm(%d), Arm(%d): deed %d was cut; want %d", c.first, c.second, cut, c.cut)
		}
		d.On()
		wantSectors(t, d, 1)
	}
}

// TestP5_3ArmCountsFromItself: not from the disk's first deed.
func TestP5_3ArmCountsFromItself(t *testing.T) {
	d := newDisk(t, 1, 16)
	d.Arm(3, nil)
	wantWrite(t, d, 0, 1, api.OK)
	wantWrite(t, d, 0, 2, api.OK)
	d.Arm(3, nil)
	wantWrite(t, d, 0, 3, api.OK)
	wantWrite(t, d, 0, 4, api.OK)
	wantFlush(t, d, api.ErrDown)
	wantState(t, d, false, 5)
}

func TestP5_3ArmedAndNeverReached(t *testing.T) {
	d := newDisk(t, 1, 16)
	wantFlush(t, d, api.OK)
	d.Arm(math.MaxInt, nil)
	for x := range byte(100) {
		wantWrite(t, d, 0, x, api.OK)
	}
	wantFlush(t, d, api.OK)
	wantSectors(t, d, 99)
	wantState(t, d, true, 102)
}

// TestP5_3OnDisarms: with power and without, be it armed ahead of the crash or behind it.
func TestP5_3OnDisarms(t *testing.T) {
	free := func(d *disk.Disk) {
		t.Helper()
		for x := range byte(5) {
			wantWrite(t, d, 0, x, api.OK)
			wantFlush(t, d, api.OK)
		}
	}
	d := newDisk(t, 1, 16)
	d.Arm(1, nil)
	d.On()
	free(d)
	d.Arm(1, nil)
	d.Crash(nil)
	d.On()
	free(d)
	d.Crash(nil)
	d.Arm(1, nil)
	d.On()
	free(d)
	d.Arm(1, nil)
	wantFlush(t, d, api.ErrDown)
	d.On()
	free(d)
	wantState(t, d, true, 41)
}

// TestP5_3OnWithPowerLeavesTheCache: what waits there waits on.
func TestP5_3OnWithPowerLeavesTheCache(t *testing.T) {
	d := newDisk(t, 2, 16)
	wantWrite(t, d, 0, 1, api.OK)
	wantWrite(t, d, 1, 2, api.OK)
	d.On()
	wantState(t, d, true, 2)
	wantSectors(t, d, 1, 2)
	d.Crash([]bool{false, true})
	d.On()
	wantSectors(t, d, 0, 2)
}

// TestP5_3ArmWithoutPowerIsNoPower: it answers nothing, and On is still needed.
func TestP5_3ArmWithoutPowerIsNoPower(t *testing.T) {
	d := newDisk(t, 1, 16)
	d.Crash(nil)
	d.Arm(1, []bool{true})
	wantState(t, d, false, 0)
	wantWrite(t, d, 0, 1, api.ErrDown)
	wantFlush(t, d, api.ErrDown)
	wantState(t, d, false, 0)
}

// step does one of some deeds to both, and says whether they answer alike.
func step(d *disk.Disk, m *model, deed int, x byte) bool {
	b := filled(x, 16)
	switch deed {
	case 0:
		return d.Write(0, b) == m.write(0, b)
	case 1:
		return d.Write(1, b) == m.write(1, b)
	case 2:
		return d.Flush() == m.flush()
	case 3:
		return d.Write(2, b) == m.write(2, b)
	case 4:
		d.Crash([]bool{false, true})
		m.crash([]bool{false, true})
	case 5:
		d.Crash([]bool{true})
		m.crash([]bool{true})
	case 6:
		d.Arm(1, []bool{false, true})
		m.arm(1, []bool{false, true})
	case 7:
		d.Arm(2, []bool{true})
		m.arm(2, []bool{true})
	case 8:
		d.On()
		m.on()
	}
	return true
}

// TestP5_3AllShortRuns: every run of six steps is as the chapter's words make it.
func TestP5_3AllShortRuns(t *testing.T) {
	const steps, kinds = 6, 9
	runs := 1
	for range steps {
		runs *= kinds
	}
	for run := range runs {
		d, m := newDisk(t, 2, 16), newModel(2, 16)
		for k, rest := 0, run; k < steps; k, rest = k+1, rest/kinds {
			if !step(d, m, rest%kinds, byte(k+1)) {
				t.Fatalf("run %d: step %d answers otherwise", run, k)
			}
		}
		if !wantLike(t, d, m) {
			t.Fatalf("run %d", run)
		}
		d.On()
		m.on()
		if !wantLike(t, d, m) {
			t.Fatalf("run %d, with power again", run)
		}
	}
}

func someKeep(chance *rand.Rand) []bool {
	keep := make([]bool, chance.Intn(12))
	for k := range keep {
		keep[k] = chance.Intn(2) == 0
	}
	return keep
}

// randomStep does one deed, of a size and a sector that may be wrong, to both.
func randomStep(t *testing.T, chance *rand.Rand, d *disk.Disk, m *model) {
	t.Helper()
	keep := someKeep(chance)
	switch chance.Intn(12) {
	case 0, 1:
		wantErrno(t, "Flush", d.Flush(), m.flush())
	case 2:
		d.Crash(keep)
		m.crash(keep)
	case 3:
		n := chance.Intn(9) - 1
		d.Arm(n, keep)
		m.arm(n, keep)
	case 4, 5:
		d.On()
		m.on()
	default:
		sector := chance.Intn(len(m.done)+2) - 1
		b := make([]byte, m.bytes+max(0, chance.Intn(30)-28))
		chance.Read(b)
		wantErrno(t, "Write", d.Write(sector, b), m.write(sector, b))
	}
}

func TestP5_3LongRunsByChance(t *testing.T) {
	chance := rand.New(rand.NewSource(53))
	for range 60 {
		sectors, size := 1+chance.Intn(6), 16+chance.Intn(30)
		d, m := newDisk(t, sectors, size), newModel(sectors, size)
		for k := range 400 {
			randomStep(t, chance, d, m)
			if !wantLike(t, d, m) {
				t.Fatalf("step %d", k)
			}
		}
	}
}

// TestP5_4BehindACrash: each sector has what it had at the last Flush, or what a write behind it gave it; and just that, if there was none.
func TestP5_4BehindACrash(t *testing.T) {
	chance := rand.New(rand.NewSource(54))
	const sectors = 4
	for range 3000 {
		d := newDisk(t, sectors, 16)
		may := make([][]byte, sectors) // what each sector may have
		for sector := range may {
			may[sector] = []byte{0}
		}
		last := make([]byte, sectors)
		d.Arm(1+chance.Intn(25), someKeep(chance))
		for k := byte(1); d.Up() && k < 100; k++ {
			if chance.Intn(4) == 0 {
				if d.Flush() == api.OK {
					for sector := range may {
						may[sector] = []byte{last[sector]}
					}
				}
				continue
			}
			sector := chance.Intn(sectors)
			d.Write(sector, filled(k, 16))
			last[sector] = k
			may[sector] = append(may[sector], k)
		}
		if d.Up() {
			t.Fatalf("the power did not go")
		}
		d.On()
		for sector := range may {
			got, e := d.Read(sector)
			if e != api.OK || len(got) != 16 || !bytes.Equal(got, filled(got[0], 16)) || !slices.Contains(may[sector], got[0]) {
				t.Fatalf("sector %d: %x, %d; may be one of %x", sector, got, e, may[sector])
			}
		}
	}
}

// TestP5_4WhatWasFlushedStays: whatever is kept of writes to other sectors, at a crash of each kind.
func TestP5_4WhatWasFlushedStays(t *testing.T) {
	for choice := range 8 {
		keep := []bool{choice&1 == 1, choice&2 == 2, choice&4 == 4}
		for kind := range 3 {
			d := newDisk(t, 4, 16)
			for sector := range 4 {
				wantWrite(t, d, sector, byte(sector+1), api.OK)
			}
			wantFlush(t, d, api.OK)
			wantWrite(t, d, 1, 50, api.OK)
			wantWrite(t, d, 1, 51, api.OK)
			switch kind {
			case 0:
				d.Crash(keep)
			case 1:
				d.Arm(1, keep)
				wantWrite(t, d, 1, 52, api.ErrDown)
			case 2:
				d.Arm(1, keep)
				wantFlush(t, d, api.ErrDown)
			}
			for range 3 {
				d.On()
				for _, sector := range []int{0, 2, 3} {
					if b, e := d.Read(sector); !bytes.Equal(b, filled(byte(sector+1), 16)) || e != api.OK {
						t.Errorf("keep %v, kind %d: sector %d = %x, %d", keep, kind, sector, b, e)
					}
				}
				d.Crash([]bool{true, true, true, true})
			}
		}
	}
}

// TestR2WhatIsGivenIsLeft: neither the bytes nor keep nor the room behind them is written into.
func TestR2WhatIsGivenIsLeft(t *testing.T) {
	full := bytes.Repeat([]byte{0xcc}, 64)
	room, keeps := bytes.Clone(full), []bool{true, false, true, false, true, false}
	d := newDisk(t, 2, 16)
	for _, n := range []int{0, 15, 16, 17} {
		d.Write(0, room[:n])
		d.Write(1, room[:n])
		d.Write(2, room[:n])
	}
	d.Flush()
	d.Write(0, filled(1, 16))
	d.Write(1, filled(2, 16))
	d.Crash(keeps[:3])
	d.On()
	d.Arm(1, keeps[:3])
	d.Write(0, room[:16])
	d.On()
	d.Read(0)
	if !bytes.Equal(room, full) || !slices.Equal(keeps, []bool{true, false, true, false, true, false}) {
		t.Errorf("written into: %x, %v", room, keeps)
	}
}

// TestR2WhatIsGivenIsNotKept: a change of the bytes, or of keep, behind the call is not seen.
func TestR2WhatIsGivenIsNotKept(t *testing.T) {
	d := newDisk(t, 2, 16)
	b := filled(1, 16)
	wantErrno(t, "Write", d.Write(0, b), api.OK)
	copy(b, filled(2, 16))
	wantSectors(t, d, 1)
	wantErrno(t, "Write", d.Write(1, b), api.OK)
	copy(b, filled(3, 16))
	wantFlush(t, d, api.OK)
	copy(b, filled(4, 16))
	wantSectors(t, d, 1, 2)

	wantErrno(t, "Write", d.Write(0, b), api.OK)
	copy(b, filled(5, 16))
	keep := []bool{true, false}
	d.Arm(1, keep)
	keep[0], keep[1] = false, true
	wantErrno(t, "Write", d.Write(1, b), api.ErrDown)
	copy(b, filled(6, 16))
	d.On()
	wantSectors(t, d, 4, 2)
}

// TestR2WhatComesOutIsNew: a change of what was read is not seen by the disk, nor by another answer.
func TestR2WhatComesOutIsNew(t *testing.T) {
	d := newDisk(t, 2, 16)
	spoil := func() {
		t.Helper()
		for sector := range 2 {
			one, _ := d.Read(sector)
			other, _ := d.Read(sector)
			was := bytes.Clone(other)
			one = one[:cap(one)]
			for k := range one {
				one[k] = 0xee
			}
			again, _ := d.Read(sector)
			if !bytes.Equal(other, was) || !bytes.Equal(again, was) {
				t.Errorf("sector %d: a change of an answer is seen: %x, %x; want %x", sector, other, again, was)
			}
		}
	}
	spoil()
	wantSectors(t, d, 0, 0)
	wantWrite(t, d, 0, 1, api.OK)
	spoil()
	wantFlush(t, d, api.OK)
	wantWrite(t, d, 1, 2, api.OK)
	wantWrite(t, d, 0, 3, api.OK)
	spoil()
	wantSectors(t, d, 3, 2)
	d.Crash([]bool{true})
	d.On()
	wantSectors(t, d, 1, 2)
	spoil()
	wantSectors(t, d, 1, 2)
}

// TestR2DisksAreApart: what is done to one is not seen by another.
func TestR2DisksAreApart(t *testing.T) {
	one, other := newDisk(t, 2, 16), newDisk(t, 2, 16)
	wantWrite(t, one, 0, 1, api.OK)
	one.Arm(1, []bool{true})
	wantWrite(t, other, 0, 2, api.OK)
	wantFlush(t, other, api.OK)
	wantFlush(t, one, api.ErrDown)
	wantState(t, one, false, 2)
	wantState(t, other, true, 2)
	one.On()
	wantSectors(t, one, 1, 0)
	wantSectors(t, other, 2, 0)
}

// TestR4ManyWritesThatWait: far more than sectors, read between.
func TestR4ManyWritesThatWait(t *testing.T) {
	d := newDisk(t, mostSectors, 16)
	for sector := range mostSectors {
		if e := d.Write(sector, filled(byte(sector), 16)); e != api.OK {
			t.Fatalf("Write(%d) = %d", sector, e)
		}
	}
	for sector := range mostSectors {
		if b, e := d.Read(sector); e != api.OK || len(b) != 16 || b[0] != byte(sector) {
			t.Fatalf("Read(%d) = %x, %d", sector, b, e)
		}
	}
	keep := make([]bool, mostSectors)
	for place := range keep {
		keep[place] = place%3 == 0
	}
	d.Crash(keep)
	d.On()
	for sector := range mostSectors {
		want := byte(0)
		if sector%3 == 0 {
			want = byte(sector)
		}
		if b, e := d.Read(sector); e != api.OK || len(b) != 16 || b[15] != want {
			t.Fatalf("Read(%d) = %x, %d; want %02x", sector, b, e, want)
		}
	}
}
