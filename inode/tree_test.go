package inode_test

import (
	"bytes"
	"fmt"
	"maps"
	"math"
	"math/rand"
	"slices"
	"strings"
	"testing"
	"unsafe"

	"chandlery/api"
	"chandlery/btree"
	"chandlery/disk"
	"chandlery/inode"
	"chandlery/node"
	"chandlery/pages"
	"chandlery/wal"
)

const (
	last   = 16777215 // of the numbers
	blocks = 300      // as many as each disk has, unless a test says otherwise
)

// full is what KeyCount has when all numbers were told: one more than three bytes hold.
const full = "\x01\x00\x00\x00"

// rig is pages, and what they lie on.
type rig struct {
	disk  *disk.Disk
	log   int
	pages *pages.Pages
}

// lay makes a disk, all 00, and opens it.
func lay(t *testing.T, blocks, size, log int) *rig {
	t.Helper()
	d, e := disk.New(1+log+blocks, size)
	if e != api.OK {
		t.Fatalf("disk.New: %d", e)
	}
	r := &rig{disk: d, log: log}
	r.open(t)
	return r
}

// open opens all anew.
func (r *rig) open(t *testing.T) {
	t.Helper()
	r.disk.On()
	w, e := wal.Open(r.disk, r.log)
	if e != api.OK {
		t.Fatalf("wal.Open: %d", e)
	}
	p, e := pages.Open(w)
	if e != api.OK {
		t.Fatalf("pages.Open: %d", e)
	}
	r.pages = p
}

// commit commits, and tells the next transaction.
func (r *rig) commit(t *testing.T, x *pages.Tx) *pages.Tx {
	t.Helper()
	if e := x.Commit(); e != api.OK {
		t.Fatalf("Commit: %d", e)
	}
	return r.pages.Begin()
}

// pairs are what a tree is to have.
type pairs map[string]string

func keyOf(n int) string { return "i" + three(n) }

// get answers what Get has to.
func (m pairs) get(n int) (api.Inode, api.Errno) {
	s, is := m[keyOf(n)]
	if !is || n < 1 || n > last {
		return api.Inode{}, api.ErrNone
	}
	i, is := readOf(s)
	if !is {
		return api.Inode{}, api.ErrForm
	}
	return i, api.OK
}

func (m pairs) put(n int, i api.Inode) api.Errno {
	if n < 1 || n > last || !fits(i) {
		return api.ErrArg
	}
	m[keyOf(n)] = laid(i)
	return api.OK
}

func (m pairs) drop(n int) api.Errno {
	if _, e := m.get(n); e == api.ErrNone {
		return e
	}
	delete(m, keyOf(n))
	return api.OK
}

func (m pairs) add(i api.Inode) (int, api.Errno) {
	s, is := m["n"]
	if !is {
		s = three(1)
	}
	n := numberOf(s)
	switch {
	case !fits(i):
		return 0, api.ErrArg
	case s == full:
		return 0, api.ErrFull
	case len(s) != 3 || n == 0:
		return 0, api.ErrForm
	}
	m["n"] = three(n + 1)
	if n == last {
		m["n"] = full
	}
	return n, m.put(n, i)
}

// numberOf is what three bytes say.
func numberOf(s string) int {
	if len(s) != 3 {
		return 0
	}
	return int(s[0])<<16 | int(s[1])<<8 | int(s[2])
}

// begin is a transaction on a new disk, with these pairs.
func begin(t *testing.T, size int, has pairs) *pages.Tx {
	t.Helper()
	x := lay(t, blocks, size, 1).pages.Begin()
	put(t, x, has)
	return x
}

func put(t *testing.T, x *pages.Tx, has pairs) {
	t.Helper()
	for _, key := range slices.Sorted(maps.Keys(has)) {
		if _, e := btree.Put(x, key, has[key]); e != api.OK {
			t.Fatalf("btree.Put(%.50q, %.50q): %d", key, has[key], e)
		}
	}
}

func wantGet(t *testing.T, x *pages.Tx, n int, i api.Inode, e api.Errno) {
	t.Helper()
	if got, f := inode.Get(x, n); got != i || f != e {
		t.Errorf("Get(%d) = %s, %d; want %s, %d", n, told(got), f, told(i), e)
	}
}

func wantPut(t *testing.T, x *pages.Tx, n int, i api.Inode, e api.Errno) {
	t.Helper()
	if f := inode.Put(x, n, i); f != e {
		t.Errorf("Put(%d, %s) = %d; want %d", n, told(i), f, e)
	}
}

func wantDrop(t *testing.T, x *pages.Tx, n int, e api.Errno) {
	t.Helper()
	if f := inode.Drop(x, n); f != e {
		t.Errorf("Drop(%d) = %d; want %d", n, f, e)
	}
}

func wantNew(t *testing.T, x *pages.Tx, i api.Inode, n int, e api.Errno) {
	t.Helper()
	if got, f := inode.New(x, i); got != n || f != e {
		t.Errorf("New(%s) = %d, %d; want %d, %d", told(i), got, f, n, e)
	}
}

// wantEach: each call answers this error, where its own promise names none ahead of it.
func wantEach(t *testing.T, x *pages.Tx, e api.Errno) {
	t.Helper()
	for _, n := range []int{1, 2, 258, last} {
		wantGet(t, x, n, api.Inode{}, e)
		wantPut(t, x, n, dir, e)
		wantPut(t, x, n, link, e)
		wantPut(t, x, n, api.Inode{}, api.ErrArg)
		wantDrop(t, x, n, e)
	}
	for _, n := range wrongNumbers() {
		wantGet(t, x, n, api.Inode{}, api.ErrNone)
		wantPut(t, x, n, dir, api.ErrArg)
		wantDrop(t, x, n, api.ErrNone)
	}
	wantNew(t, x, dir, 0, e)
	wantNew(t, x, link, 0, e)
	wantNew(t, x, api.Inode{}, 0, api.ErrArg)
}

// wantTree: there are just these pairs, in pages of a tree.
func wantTree(t *testing.T, x *pages.Tx, has pairs) {
	t.Helper()
	if n, e := btree.Check(x); n != len(has) || e != api.OK {
		t.Errorf("btree.Check = %d, %d; want %d", n, e, len(has))
	}
	key := ""
	for _, next := range slices.Sorted(maps.Keys(has)) {
		p, is, e := btree.Next(x, key)
		if p != (api.Pair{Key: next, Value: has[next]}) || !is || e != api.OK {
			t.Errorf("btree.Next(%.50q) = %.50q, %v, %d; want %.50q: %.50q", key, p, is, e, next, has[next])
			break
		}
		key = next
	}
	if t.Failed() {
		t.FailNow()
	}
}

// state is all that can be seen of a transaction.
func state(x *pages.Tx) string {
	root, e := x.Root()
	s := fmt.Sprintf("%d, %d:", root, e)
	for page := range blocks {
		if b, e := x.Read(page); e == api.OK {
			s += fmt.Sprintf(" %d %x", page, b)
		}
	}
	return s
}

// wantStill: what is done changes nothing.
func wantStill(t *testing.T, x *pages.Tx, do func()) {
	t.Helper()
	was := state(x)
	do()
	if now := state(x); now != was {
		t.Errorf("%s\nis changed to\n%s", was, now)
	}
}

var (
	file = api.Inode{Kind: 1, Exec: true, Links: 2, Size: 258}
	dir  = api.Inode{Kind: 2, Links: 1}
	link = api.Inode{Kind: 3, Links: 1, Data: strings.Repeat("../a", 10)}
)

func numbers() []int {
	return []int{1, 2, 3, 46, 47, 48, 127, 128, 255, 256, 257, 258, 511, 512, 65535, 65536, 65537, 8388607, 8388608, 16711680, last - 1, last}
}

func wrongNumbers() []int {
	return []int{0, -1, -2, -255, -256, -65536, -last, -last - 1, last + 1, last + 2, last + 3, last + 259, 1<<25 - 1, 1 << 25, 1<<32 + 1, 1<<32 + 258, math.MaxInt32, math.MinInt32, math.MinInt32 + 1, math.MaxInt, math.MinInt, math.MinInt + 1}
}

// others are keys of other kinds, and ones that are none's, that stand around the inodes and the count.
func others() pairs {
	return pairs{"c\x00\x00\x01\x00\x00": "bytes", "d\x00\x00\x01a": "x", "h": "", "i": "x", "i\x00\x00": "x", "i\x00\x00\x01x": "x", "i\xff\xff\xff\x00": "x", "j": "x", "l": "x", "m\xff": "x", "n\x00": "x", "nn": "x", "o": "x", "pa": "x"}
}

// spread puts so many keys that a leaf has none of them and inodes, or them and the count.
func spread(has pairs, count int) pairs {
	for k := range count {
		for _, letter := range []string{"a", "k", "x"} {
			has[fmt.Sprintf("%s%03d", letter, k)] = "value"
		}
	}
	return has
}

func TestP12_2Examples(t *testing.T) {
	x := begin(t, 256, nil)
	wantNew(t, x, dir, 1, api.OK)
	wantNew(t, x, file, 2, api.OK)
	wantDrop(t, x, 2, api.OK)
	wantNew(t, x, link, 3, api.OK)
	wantTree(t, x, pairs{"n": "\x00\x00\x04", "i\x00\x00\x01": "\x02\x00\x00\x01\x00\x00\x00", "i\x00\x00\x03": "\x03\x00\x00\x01\x00\x00\x00" + link.Data})
}

// TestP12_2Numbers: each number that is there, or is not; the others stay what they are.
func TestP12_2Numbers(t *testing.T) {
	for _, n := range numbers() {
		x := begin(t, 256, others())
		has := others()
		wantStill(t, x, func() {
			wantGet(t, x, n, api.Inode{}, api.ErrNone)
			wantDrop(t, x, n, api.ErrNone)
		})
		for _, i := range []api.Inode{file, dir, link, file} {
			wantPut(t, x, n, i, has.put(n, i))
			wantTree(t, x, has)
			for _, m := range append(numbers(), wrongNumbers()...) {
				if m != n {
					wantGet(t, x, m, api.Inode{}, api.ErrNone)
				}
			}
			wantGet(t, x, n, i, api.OK)
		}
		for _, m := range append(numbers(), wrongNumbers()...) {
			if m != n {
				wantStill(t, x, func() { wantDrop(t, x, m, api.ErrNone) })
			}
		}
		wantTree(t, x, has)
		wantDrop(t, x, n, api.OK)
		wantStill(t, x, func() {
			wantDrop(t, x, n, api.ErrNone)
			wantGet(t, x, n, api.Inode{}, api.ErrNone)
		})
		wantTree(t, x, others())
	}
}

// TestP12_2WrongNumbers: in an empty tree, and in one that has numbers that look like these.
func TestP12_2WrongNumbers(t *testing.T) {
	full := others()
	for _, n := range numbers() {
		full.put(n, link)
	}
	for _, has := range []pairs{nil, others(), full} {
		x := begin(t, 256, has)
		wantStill(t, x, func() {
			for _, n := range wrongNumbers() {
				wantGet(t, x, n, api.Inode{}, api.ErrNone)
				wantDrop(t, x, n, api.ErrNone)
				for _, i := range append(wrong(), file, dir, link) {
					wantPut(t, x, n, i, api.ErrArg)
				}
			}
		})
		wantTree(t, x, has)
	}
}

// TestP12_2AllThatMayBe: each of these inodes is put and got, behind others and over them.
func TestP12_2AllThatMayBe(t *testing.T) {
	has := pairs{}
	x := begin(t, 256, nil)
	for k, i := range samples() {
		n := 1 + k%50
		wantPut(t, x, n, i, has.put(n, i))
		wantGet(t, x, n, i, api.OK)
	}
	wantTree(t, x, has)
	for n := range 52 {
		i, e := has.get(n)
		wantGet(t, x, n, i, e)
	}
}

// TestP12_2WrongInodes: Put and New of inodes that may not be change nothing, whether there is one or not, and whatever the count is.
func TestP12_2WrongInodes(t *testing.T) {
	for _, has := range []pairs{nil, others(), {"n": three(2), keyOf(1): laid(file)}, {"n": full}, {"n": "no number"}} {
		x := begin(t, 256, has)
		wantStill(t, x, func() {
			for _, i := range wrong() {
				wantPut(t, x, 1, i, api.ErrArg)
				wantPut(t, x, last, i, api.ErrArg)
				wantNew(t, x, i, 0, api.ErrArg)
			}
		})
		wantTree(t, x, has)
	}
}

// TestP12_2NoInodesBytes: a value that is none's is told as such by Get, and is as good as any other for Put and Drop.
func TestP12_2NoInodesBytes(t *testing.T) {
	none := []string{"", "x", "\x00", strings.Repeat("\x00", 7), laid(file)[:6], laid(file) + "\x00", laid(dir) + "x", laid(link)[:7], laid(link) + "d", laid(api.Inode{Kind: 1}), laid(api.Inode{Kind: 4, Links: 1}), strings.Repeat("\x03", 55)}
	for _, i := range wrong() {
		if i.Kind >= 0 && i.Kind < 256 && i.Links >= 0 && i.Links < 65536 && i.Size >= 0 && i.Size <= last {
			none = append(none, laid(i))
		}
	}
	for _, s := range none {
		if _, is := readOf(s); is {
			t.Fatalf("%q is an inode's", s)
		}
		for _, n := range []int{1, 258, last} {
			has := others()
			has[keyOf(n)] = s
			has["n"] = three(n)
			x := begin(t, 512, has)
			wantStill(t, x, func() {
				wantGet(t, x, n, api.Inode{}, api.ErrForm)
				wantPut(t, x, n, api.Inode{}, api.ErrArg)
			})
			wantPut(t, x, n, dir, has.put(n, dir))
			wantGet(t, x, n, dir, api.OK)
			wantTree(t, x, has)
			btree.Put(x, keyOf(n), s)
			has[keyOf(n)] = s
			wantDrop(t, x, n, has.drop(n))
			wantGet(t, x, n, api.Inode{}, api.ErrNone)
			wantDrop(t, x, n, api.ErrNone)
			wantTree(t, x, has)
			btree.Put(x, keyOf(n), s)
			told, e := has.add(link)
			wantNew(t, x, link, told, e)
			wantGet(t, x, n, link, api.OK)
			wantTree(t, x, has)
		}
	}
}

// TestP12_2New: in an empty tree, and behind others.
func TestP12_2New(t *testing.T) {
	for _, size := range []int{236, 256, 512, 4096} {
		for _, has := range []pairs{{}, others(), spread(pairs{}, 60), spread(others(), 30)} {
			x := begin(t, size, has)
			for n := 1; n <= 300; n++ {
				i := []api.Inode{file, dir, link}[n%3]
				wantNew(t, x, i, n, api.OK)
				if told, e := has.add(i); told != n || e != api.OK {
					t.Fatalf("the model tells %d, %d", told, e)
				}
			}
			wantTree(t, x, has)
			for n := range 302 {
				i, e := has.get(n)
				wantGet(t, x, n, i, e)
			}
		}
	}
}

// TestP12_2NewBehindDrop: of the highest number, of a lower one, of all, and of the tree's last key but the count.
func TestP12_2NewBehindDrop(t *testing.T) {
	for _, drops := range [][]int{{10}, {9}, {1}, {10, 9}, {10, 1, 5}, {1, 2, 3, 4, 5, 6, 7, 8, 9, 10}, {10, 9, 8, 7, 6, 5, 4, 3, 2, 1}} {
		has := pairs{}
		x := begin(t, 256, nil)
		for n := 1; n <= 10; n++ {
			has.add(link)
			wantNew(t, x, link, n, api.OK)
		}
		for _, n := range drops {
			wantDrop(t, x, n, has.drop(n))
		}
		wantTree(t, x, has)
		for n := 11; n <= 15; n++ {
			has.add(dir)
			wantNew(t, x, dir, n, api.OK)
			wantDrop(t, x, n, has.drop(n))
		}
		wantTree(t, x, has)
		for _, n := range drops {
			wantGet(t, x, n, api.Inode{}, api.ErrNone)
		}
	}
}

// TestP12_2NewAndPut: Put of a number does not count; New puts over what it has.
func TestP12_2NewAndPut(t *testing.T) {
	x := begin(t, 256, nil)
	wantPut(t, x, 2, link, api.OK)
	wantPut(t, x, last, file, api.OK)
	for n := 1; n <= 4; n++ {
		wantNew(t, x, dir, n, api.OK)
		wantGet(t, x, n, dir, api.OK)
	}
	wantGet(t, x, last, file, api.OK)
	wantPut(t, x, 6, link, api.OK)
	wantNew(t, x, dir, 5, api.OK)
	wantNew(t, x, file, 6, api.OK)
	wantGet(t, x, 6, file, api.OK)
	has := pairs{"n": three(7), keyOf(last): laid(file), keyOf(6): laid(file)}
	for n := 1; n <= 5; n++ {
		has.put(n, dir)
	}
	wantTree(t, x, has)
}

// TestP12_2NewFromAnyCount: the value of KeyCount is told, and is one more then, across each byte's edge.
func TestP12_2NewFromAnyCount(t *testing.T) {
	for _, n := range numbers() {
		for _, has := range []pairs{{}, others(), spread(pairs{}, 40)} {
			has["n"] = three(n)
			x := begin(t, 256, has)
			for range 3 {
				told, e := has.add(link)
				wantNew(t, x, link, told, e)
				wantTree(t, x, has)
			}
			wantGet(t, x, n, link, api.OK)
			i, e := has.get(n + 1)
			wantGet(t, x, n+1, i, e)
		}
	}
}

// TestP12_2NewFull: 16777215 is the last number that is told; behind it there is none, whatever is dropped.
func TestP12_2NewFull(t *testing.T) {
	for _, has := range []pairs{{}, others(), spread(others(), 40)} {
		has["n"] = three(last - 1)
		r := lay(t, blocks, 256, 60)
		x := r.pages.Begin()
		put(t, x, has)
		wantNew(t, x, file, last-1, api.OK)
		wantNew(t, x, link, last, api.OK)
		has.add(file)
		has.add(link)
		wantTree(t, x, has)
		for range 2 {
			wantStill(t, x, func() {
				for _, i := range []api.Inode{file, dir, link} {
					wantNew(t, x, i, 0, api.ErrFull)
				}
				wantNew(t, x, api.Inode{}, 0, api.ErrArg)
			})
			wantGet(t, x, last, link, api.OK)
			x = r.commit(t, x)
		}
		for _, n := range []int{last, last - 1} {
			wantDrop(t, x, n, has.drop(n))
			wantNew(t, x, dir, 0, api.ErrFull)
			wantTree(t, x, has)
		}
		r.open(t)
	}
}

// TestP12_2CountAboveAll: it is as New leaves it; no leaf has room for an inode, but that is not what is told.
func TestP12_2CountAboveAll(t *testing.T) {
	for _, size := range []int{64, 75, 76, 256, 4096} {
		x := begin(t, size, pairs{"n": full})
		wantStill(t, x, func() {
			wantNew(t, x, dir, 0, api.ErrFull)
			wantNew(t, x, link, 0, api.ErrFull)
			wantNew(t, x, api.Inode{Kind: 2}, 0, api.ErrArg)
		})
	}
}

// TestP12_2CountThatIsNone: a value of KeyCount that no New leaves; the other calls do not count it.
func TestP12_2CountThatIsNone(t *testing.T) {
	for _, s := range []string{"", "\x01", "\x00\x01", "\xff\xff", "\x00\x00\x00", "\x00\x00\x00\x00", "\x00\x00\x00\x01", "\x00\xff\xff\xff", "\x01\x00\x00\x01", "\x01\x00\x00\x00\x00", "\x00\x01\x00\x00\x00", "\x00\x00\x01\x00", "\xff\xff\xff\xff", "1", "abcd", strings.Repeat("\x00", 8) + "\x00\x00\x01", "\x01" + strings.Repeat("\x00", 8), "\x01" + strings.Repeat("\x00", 10) + "\x05", strings.Repeat("\xff", 8), strings.Repeat("\x01", 50)} {
		for _, has := range []pairs{{}, others(), {keyOf(1): laid(file), keyOf(last): laid(link)}} {
			has["n"] = s
			x := begin(t, 256, has)
			wantStill(t, x, func() {
				for _, i := range []api.Inode{file, dir, link} {
					wantNew(t, x, i, 0, api.ErrForm)
				}
				wantNew(t, x, api.Inode{}, 0, api.ErrArg)
			})
			wantPut(t, x, 9, link, has.put(9, link))
			wantGet(t, x, 9, link, api.OK)
			wantTree(t, x, has)
			wantDrop(t, x, 9, has.drop(9))
			wantTree(t, x, has)
			wantNew(t, x, dir, 0, api.ErrForm)
			btree.Delete(x, "n")
			wantNew(t, x, dir, 1, api.OK)
		}
	}
}

// TestP12_2Nil: a transaction that is nil; what the promise names comes ahead of that.
func TestP12_2Nil(t *testing.T) {
	wantEach(t, nil, api.ErrNil)
	var none *pages.Pages
	wantEach(t, none.Begin(), api.ErrNil)
	for _, i := range wrong() {
		wantPut(t, nil, 1, i, api.ErrArg)
		wantNew(t, nil, i, 0, api.ErrArg)
	}
}

// TestP12_2Done: a transaction that is done, by a commit or by another one.
func TestP12_2Done(t *testing.T) {
	r := lay(t, blocks, 256, 20)
	has := pairs{}
	x := r.pages.Begin()
	for range 5 {
		n, e := has.add(link)
		wantNew(t, x, link, n, e)
	}
	y := r.commit(t, x)
	wantEach(t, x, api.ErrArg)
	x = r.pages.Begin()
	wantEach(t, y, api.ErrArg)
	wantTree(t, x, has)
}

// TestP12_2Down: the power is off; behind that the transaction is done.
func TestP12_2Down(t *testing.T) {
	r := lay(t, blocks, 256, 60)
	has := spread(pairs{}, 30)
	x := r.pages.Begin()
	put(t, x, has)
	for range 20 {
		n, e := has.add(link)
		wantNew(t, x, link, n, e)
	}
	r.commit(t, x)
	calls := map[string]func(x *pages.Tx){
		"Get":  func(x *pages.Tx) { wantGet(t, x, 7, api.Inode{}, api.ErrDown) },
		"Put":  func(x *pages.Tx) { wantPut(t, x, 7, dir, api.ErrDown) },
		"Drop": func(x *pages.Tx) { wantDrop(t, x, 7, api.ErrDown) },
		"New":  func(x *pages.Tx) { wantNew(t, x, dir, 0, api.ErrDown) },
	}
	for name, call := range calls {
		for _, ahead := range []string{"", "a000", "x029"} { // a page that is in the transaction already is read there
			x := r.pages.Begin()
			if ahead != "" {
				btree.Put(x, ahead, "w")
			}
			r.disk.Crash(nil)
			wantPut(t, x, 0, dir, api.ErrArg)
			wantGet(t, x, 0, api.Inode{}, api.ErrNone)
			wantNew(t, x, api.Inode{}, 0, api.ErrArg)
			call(x)
			wantEach(t, x, api.ErrArg)
			r.open(t)
			wantEach(t, x, api.ErrArg)
			if t.Failed() {
				t.Fatalf("%s behind %q", name, ahead)
			}
		}
	}
	wantTree(t, r.pages.Begin(), has)
}

// TestP12_2DownAtOnce: the power goes ahead of the first call.
func TestP12_2DownAtOnce(t *testing.T) {
	r := lay(t, blocks, 256, 20)
	for _, call := range []func(x *pages.Tx) api.Errno{
		func(x *pages.Tx) api.Errno { _, e := inode.Get(x, 1); return e },
		func(x *pages.Tx) api.Errno { return inode.Put(x, 1, file) },
		func(x *pages.Tx) api.Errno { return inode.Drop(x, 1) },
		func(x *pages.Tx) api.Errno { _, e := inode.New(x, file); return e },
	} {
		x := r.pages.Begin()
		r.disk.Crash(nil)
		if e := call(x); e != api.ErrDown {
			t.Errorf("%d; want ErrDown", e)
		}
		r.open(t)
	}
}

// TestP12_2PageSizes: those that a tree has not, and those that are too small for an inode.
func TestP12_2PageSizes(t *testing.T) {
	for _, size := range []int{16, 17, 32, 60, 63} {
		x := lay(t, blocks, size, 1).pages.Begin()
		wantStill(t, x, func() { wantEach(t, x, api.ErrArg) })
	}
	for _, data := range []int{0, 1, 2, 20, 39, 40} {
		i := file
		if data > 0 {
			i = api.Inode{Kind: 3, Links: 1, Data: strings.Repeat("d", data)}
		}
		least := 16 + 4*(4+4+7+data) // Most is as many bytes as the key and the value have
		for size := max(64, least-5); size < least; size++ {
			for _, has := range []pairs{nil, {"n": three(5)}, {"n": three(last)}, {"k": "x"}} {
				x := begin(t, size, has)
				wantStill(t, x, func() {
					wantPut(t, x, 1, i, api.ErrArg)
					wantNew(t, x, i, 0, api.ErrArg)
					wantGet(t, x, 1, api.Inode{}, api.ErrNone)
					wantDrop(t, x, 1, api.ErrNone)
				})
				wantTree(t, x, has)
			}
		}
		for size := least; size < least+5; size++ {
			x := begin(t, size, nil)
			for n := 1; n < 20; n++ {
				wantNew(t, x, i, n, api.OK)
				wantPut(t, x, 1000+n, i, api.OK)
			}
			wantGet(t, x, 5, i, api.OK)
			wantGet(t, x, 1005, i, api.OK)
		}
	}
}

// takeAll leaves no page that is not used.
func takeAll(t *testing.T, x *pages.Tx) {
	t.Helper()
	for {
		_, e := x.Take()
		if e == api.ErrFull {
			return
		}
		if e != api.OK {
			t.Fatalf("Take: %d", e)
		}
	}
}

// TestP12_2AllPagesUsed: what needs no page more is done; what does is answered by ErrFull, and not committed by itself.
func TestP12_2AllPagesUsed(t *testing.T) {
	r := lay(t, blocks, 256, 20)
	x := r.pages.Begin()
	takeAll(t, x)
	wantPut(t, x, 1, dir, api.ErrFull)
	x = r.pages.Begin()
	takeAll(t, x)
	wantNew(t, x, dir, 0, api.ErrFull)
	wantTree(t, r.pages.Begin(), nil)

	has := pairs{}
	x = r.pages.Begin()
	for range 20 {
		n, e := has.add(link)
		wantNew(t, x, link, n, e)
	}
	x = r.commit(t, x)
	takeAll(t, x)
	now := maps.Clone(has)
	for range 10 { // there is room in a leaf for some of these
		n, e := inode.New(x, link)
		if e == api.ErrFull {
			if n != 0 {
				t.Errorf("New = %d, %d", n, e)
			}
			break
		}
		want, _ := now.add(link)
		if n != want || e != api.OK {
			t.Fatalf("New = %d, %d; want %d", n, e, want)
		}
		wantTree(t, x, now)
	}
	if _, e := inode.New(x, link); e != api.ErrFull {
		t.Errorf("New = %d; want ErrFull", e)
	}
	x = r.pages.Begin()
	wantTree(t, x, has)
	takeAll(t, x)
	for n := 1; n <= 20; n++ {
		wantPut(t, x, n, dir, has.put(n, dir))
		wantGet(t, x, n, dir, api.OK)
	}
	wantTree(t, x, has)
	for n := 1; n <= 20; n++ {
		wantDrop(t, x, n, has.drop(n))
	}
	wantTree(t, x, has)
	if n, e := inode.New(x, file); n != 21 || e != api.OK {
		t.Errorf("New = %d, %d; want 21", n, e)
	}
}

// TestP12_2NoPageForTheCount: the leaf has room for the inode, but not for the first count, too.
func TestP12_2NoPageForTheCount(t *testing.T) {
	r := lay(t, blocks, 256, 20)
	has := pairs{"z": "123"}
	for _, key := range []string{"a", "b", "c", "d"} {
		has[key] = strings.Repeat("v", 55)
	}
	x := r.pages.Begin()
	put(t, x, has)
	x = r.commit(t, x)
	takeAll(t, x)
	wantNew(t, x, dir, 0, api.ErrFull)
	x = r.pages.Begin()
	takeAll(t, x)
	wantPut(t, x, 1, dir, api.OK)
	x = r.pages.Begin()
	wantTree(t, x, has)
	n, e := has.add(dir)
	wantNew(t, x, dir, n, e)
	wantTree(t, x, has)
}

// garble writes into a page what is no node.
func garble(t *testing.T, x *pages.Tx, page int) {
	t.Helper()
	if e := x.Write(page, bytes.Repeat([]byte{7}, x.Bytes())); e != api.OK {
		t.Fatalf("Write: %d", e)
	}
}

// leaves are a tree's, as its keys rise.
func leaves(t *testing.T, x *pages.Tx) (l []int) {
	t.Helper()
	root, _ := x.Root()
	var look func(page int)
	look = func(page int) {
		b, _ := x.Read(page)
		n, e := node.Parse(b)
		if e != api.OK {
			t.Fatalf("page %d: %d", page, e)
		}
		if n.Leaf {
			l = append(l, page)
		}
		for _, child := range n.Children {
			look(child)
		}
	}
	look(root)
	return l
}

// TestP12_2RootThatIsNoNode: each call answers ErrForm, and changes nothing.
func TestP12_2RootThatIsNoNode(t *testing.T) {
	for _, has := range []pairs{{"n": three(3)}, spread(pairs{"n": three(3)}, 30)} {
		x := begin(t, 256, has)
		root, _ := x.Root()
		garble(t, x, root)
		wantStill(t, x, func() { wantEach(t, x, api.ErrForm) })
	}
	x := begin(t, 256, nil)
	page, _ := x.Take()
	x.SetRoot(page) // all 00
	wantStill(t, x, func() { wantEach(t, x, api.ErrForm) })
}

// wide are pairs in so many leaves that few calls need most of them.
func wide(count string) pairs {
	has := spread(pairs{}, 30)
	for n := 1; n <= 30; n++ {
		has.put(n, []api.Inode{file, dir, link}[n%3])
	}
	if count != "" {
		has["n"] = count
	}
	return has
}

// TestP12_2LeafThatIsNoNode: wherever it stands, a call that fails changes nothing, and one that does not is done.
func TestP12_2LeafThatIsNoNode(t *testing.T) {
	has := wide(three(31))
	answers := map[api.Errno]int{}
	for place := range leaves(t, begin(t, 256, has)) {
		for _, n := range []int{1, 6, 7, 14, 21, 29, 30} {
			for name, call := range map[string]func(x *pages.Tx) api.Errno{
				"Get":  func(x *pages.Tx) api.Errno { _, e := inode.Get(x, n); return e },
				"Put":  func(x *pages.Tx) api.Errno { return inode.Put(x, n, link) },
				"Drop": func(x *pages.Tx) api.Errno { return inode.Drop(x, n) },
			} {
				x := begin(t, 256, has)
				garble(t, x, leaves(t, x)[place])
				was := state(x)
				e := call(x)
				answers[e]++
				switch {
				case e == api.ErrForm || e == api.OK && name == "Get":
					if state(x) != was {
						t.Errorf("%s of %d answers %d and changes something, with no node at the leaf %d", name, n, e, place)
					}
				case e != api.OK:
					t.Errorf("%s of %d answers %d, with no node at the leaf %d", name, n, e, place)
				case name == "Put":
					wantGet(t, x, n, link, api.OK)
				default:
					wantGet(t, x, n, api.Inode{}, api.ErrNone)
				}
			}
		}
	}
	if answers[api.OK] < 10 || answers[api.ErrForm] < 10 {
		t.Errorf("the calls answered %v", answers)
	}
}

// TestP12_2NewBesideNoNode: with a count, without one, and with one that needs a byte more then: there is an inode more and the count tells it, or all is as it was.
func TestP12_2NewBesideNoNode(t *testing.T) {
	for _, count := range []string{"", three(4), three(7), three(31), three(last)} {
		has := wide(count)
		answers := map[api.Errno]int{}
		for place := range leaves(t, begin(t, 256, has)) {
			for _, i := range []api.Inode{dir, link} {
				now := maps.Clone(has)
				told, _ := now.add(i)
				x := begin(t, 256, has)
				garble(t, x, leaves(t, x)[place])
				was := state(x)
				n, e := inode.New(x, i)
				answers[e]++
				if e == api.OK && n == told {
					wantGet(t, x, n, i, api.OK)
					if value, is, e := btree.Get(x, "n"); value != now["n"] || !is || e != api.OK {
						t.Errorf("the count is %q, %v, %d; want %q", value, is, e, now["n"])
					}
				} else if e != api.ErrForm || n != 0 || state(x) != was {
					t.Errorf("New = %d, %d, with the count %q and no node at the leaf %d", n, e, count, place)
				}
			}
		}
		if answers[api.ErrForm] < 4 || answers[api.OK] < 4 && count != "" && count != three(last) {
			t.Errorf("with the count %q New answered %v", count, answers)
		}
	}
}

// TestP12_2NewBesideNoNodeAndFull: the leaf of the count is as full as may be, so that the count's bytes, which are more then, make two of it, for which the leaves beside it are read.
func TestP12_2NewBesideNoNodeAndFull(t *testing.T) {
	for _, count := range []string{"", three(last)} {
		for room := range 56 {
			has := pairs{"m": strings.Repeat("v", room)}
			for _, key := range []string{"a", "b", "c", "d", "h", "j", "k", "l", "o", "p", "q", "r", "s"} {
				has[key] = strings.Repeat("v", 55)
			}
			if count != "" {
				has["n"] = count
			}
			for place := range leaves(t, begin(t, 256, has)) {
				x := begin(t, 256, has)
				garble(t, x, leaves(t, x)[place])
				wantStill(t, x, func() { wantNew(t, x, dir, 0, api.ErrForm) })
			}
		}
	}
}

// TestP12_3PutIsGot: long runs of all calls, held against the chapter's words, in transactions that are committed or not, and by a disk that is opened anew.
func TestP12_3PutIsGot(t *testing.T) {
	for seed := range int64(15) {
		chance := rand.New(rand.NewSource(seed))
		r := lay(t, blocks, []int{236, 256, 300, 512, 4096}[seed%5], 60)
		x := r.pages.Begin()
		was, has := pairs{}, pairs{}
		all := slices.Concat(samples(), wrong(), wrong())
		for range 500 {
			i := all[chance.Intn(len(all))]
			n := chance.Intn(45)
			if chance.Intn(20) == 0 {
				edges := slices.Concat(numbers(), wrongNumbers())
				n = edges[chance.Intn(len(edges))]
			}
			switch chance.Intn(8) {
			case 0, 1:
				wantPut(t, x, n, i, has.put(n, i))
			case 2:
				wantDrop(t, x, n, has.drop(n))
			case 3, 4, 5:
				told, e := has.add(i)
				wantNew(t, x, i, told, e)
			default:
				got, e := has.get(n)
				wantGet(t, x, n, got, e)
			}
			if chance.Intn(20) == 0 {
				wantTree(t, x, has)
				if e := x.Commit(); e == api.OK {
					was = maps.Clone(has)
				} else if e != api.ErrLog {
					t.Fatalf("Commit: %d", e)
				}
				has = maps.Clone(was)
				x = r.pages.Begin()
			} else if chance.Intn(40) == 0 {
				has = maps.Clone(was)
				r.open(t)
				x = r.pages.Begin()
				wantTree(t, x, has)
			}
			if t.Failed() {
				t.FailNow()
			}
		}
	}
}

// TestP12_3NoNumberTwice: whatever is dropped and put, in one transaction or in many.
func TestP12_3NoNumberTwice(t *testing.T) {
	for seed := range int64(10) {
		chance := rand.New(rand.NewSource(100 + seed))
		r := lay(t, blocks, 256, 60)
		x := r.pages.Begin()
		told := map[int]int{}
		high := 0
		for range 400 {
			switch chance.Intn(6) {
			case 0, 1:
				n, e := inode.New(x, []api.Inode{file, dir, link}[chance.Intn(3)])
				told[n]++
				if e != api.OK || told[n] > 1 || n != high+1 {
					t.Fatalf("New = %d, %d, the %d. time, behind %d", n, e, told[n], high)
				}
				high = n
			case 2, 3:
				inode.Drop(x, 1+chance.Intn(high+1))
			case 4:
				inode.Drop(x, high)
			default:
				inode.Put(x, 1+chance.Intn(2*high+1), link)
			}
			if chance.Intn(30) == 0 {
				x = r.commit(t, x)
				r.open(t)
				x = r.pages.Begin()
			}
		}
	}
}

// TestP12_3WhatIsCommitted: it is there when all is opened anew; what was not committed, is not.
func TestP12_3WhatIsCommitted(t *testing.T) {
	r := lay(t, blocks, 256, 60)
	has := others()
	x := r.pages.Begin()
	put(t, x, has)
	for range 4 {
		for _, i := range []api.Inode{file, dir, link} {
			n, e := has.add(i)
			wantNew(t, x, i, n, e)
		}
		wantPut(t, x, last, link, has.put(last, link))
		wantPut(t, x, 2, link, has.put(2, link))
		wantDrop(t, x, 1, has.drop(1))
		r.commit(t, x)
		r.open(t)
		x = r.pages.Begin()
		wantTree(t, x, has)
		for n := range 20 {
			i, e := has.get(n)
			wantGet(t, x, n, i, e)
		}
		was := maps.Clone(has)
		n, e := was.add(file)
		wantNew(t, x, file, n, e)
		wantDrop(t, x, last, api.OK)
		wantPut(t, x, 3, dir, api.OK)
		x = r.pages.Begin()
		wantTree(t, x, has)
		wantPut(t, x, 1, file, has.put(1, file))
	}
}

// TestT1CutAtEachDeed: what a transaction does is there whole, or not at all: an inode with the count, or neither.
func TestT1CutAtEachDeed(t *testing.T) {
	for _, start := range []pairs{{}, {"n": three(5), keyOf(4): laid(file), keyOf(2): laid(dir)}, {"n": three(last), keyOf(4): laid(link), keyOf(2): laid(dir)}} {
		for cut := 1; cut < 40; cut++ {
			for _, kept := range []bool{false, true} {
				r := lay(t, blocks, 256, 20)
				x := r.pages.Begin()
				put(t, x, start)
				x = r.commit(t, x)
				has := maps.Clone(start)
				n, e := has.add(link)
				wantNew(t, x, link, n, e)
				wantPut(t, x, 9, file, has.put(9, file))
				wantDrop(t, x, 2, has.drop(2))
				wantDrop(t, x, 4, has.drop(4))
				r.disk.Arm(cut, slices.Repeat([]bool{kept}, 60))
				e = x.Commit()
				r.open(t)
				x = r.pages.Begin()
				want := start
				if _, f := inode.Get(x, 9); e == api.OK || f == api.OK {
					want = has
				}
				wantTree(t, x, want)
				told, e := maps.Clone(want).add(dir)
				wantNew(t, x, dir, told, e)
			}
		}
	}
}

// TestR2ReadingChangesNothing: nor does a call that puts what is there, drops what is not, or fails.
func TestR2ReadingChangesNothing(t *testing.T) {
	r := lay(t, blocks, 256, 60)
	x := r.pages.Begin()
	for n := 1; n <= 20; n++ {
		wantNew(t, x, link, n, api.OK)
	}
	x = r.commit(t, x)
	for range 3 {
		for n := range 25 {
			i, e := link, api.OK
			if n < 1 || n > 20 {
				i, e = api.Inode{}, api.ErrNone
			}
			wantGet(t, x, n, i, e)
		}
		wantPut(t, x, 7, link, api.OK)
		wantPut(t, x, 7, api.Inode{}, api.ErrArg)
		wantDrop(t, x, 21, api.ErrNone)
		wantNew(t, x, api.Inode{}, 0, api.ErrArg)
	}
	was := r.disk.Deeds()
	if e := x.Commit(); e != api.OK || r.disk.Deeds() != was {
		t.Errorf("Commit = %d, of %d deeds", e, r.disk.Deeds()-was)
	}
}

// TestR2WhatIsPutIsNotKept: the bytes of a text that was put are written over behind it.
func TestR2WhatIsPutIsNotKept(t *testing.T) {
	x := begin(t, 256, nil)
	has := pairs{}
	given := []byte("........")
	for k := range 40 {
		text := fmt.Sprintf("link %03d", k)
		copy(given, text)
		i := api.Inode{Kind: 3, Links: 1, Data: unsafe.String(&given[0], len(given))}
		n, _ := has.add(api.Inode{Kind: 3, Links: 1, Data: text})
		wantNew(t, x, i, n, api.OK)
		has.put(1000+k, api.Inode{Kind: 3, Links: 1, Data: text})
		wantPut(t, x, 1000+k, i, api.OK)
		if string(given) != text {
			t.Errorf("the text is written into: %q", given)
		}
		copy(given, "XXXXXXXX")
	}
	wantTree(t, x, has)
}

// TestR2WhatIsGotIsNew: its bytes are written over, which is seen neither in the tree nor in another answer.
func TestR2WhatIsGotIsNew(t *testing.T) {
	x := begin(t, 256, nil)
	has := pairs{}
	for k := range 20 {
		i := api.Inode{Kind: 3, Links: 1, Data: fmt.Sprintf("link %03d", k)}
		n, _ := has.add(i)
		wantNew(t, x, i, n, api.OK)
	}
	for n := 1; n <= 20; n++ {
		one, _ := inode.Get(x, n)
		other, _ := inode.Get(x, n)
		scribble(one.Data)
		if want, _ := has.get(n); other != want {
			t.Errorf("a change of one answer is seen in another: %s", told(other))
		}
	}
	wantTree(t, x, has)
}
