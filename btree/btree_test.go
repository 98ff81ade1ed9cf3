package btree_test

import (
	"bytes"
	"fmt"
	"maps"
	"math/rand"
	"slices"
	"strings"
	"testing"
	"unsafe"

	"chandlery/api"
	"chandlery/btree"
	"chandlery/disk"
	"chandlery/node"
	"chandlery/pages"
	"chandlery/wal"
)

// rig is pages, and what they lie on.
type rig struct {
	disk  *disk.Disk
	log   int
	pages *pages.Pages
}

// lay makes a disk of so many blocks, all 00, and opens it.
func lay(t *testing.T, blocks, size, log int) *rig {
	t.Helper()
	d, e := disk.New(1+log+blocks, size)
	if e != api.OK {
		t.Fatalf("disk.New: %d", e)
	}
	r := &rig{disk: d, log: log}
	r.open(t)
	return r
}

// open opens all anew.
func (r *rig) open(t *testing.T) {
	t.Helper()
	r.disk.On()
	w, e := wal.Open(r.disk, r.log)
	if e != api.OK {
		t.Fatalf("wal.Open: %d", e)
	}
	p, e := pages.Open(w)
	if e != api.OK {
		t.Fatalf("pages.Open: %d", e)
	}
	r.pages = p
}

// begin is a transaction on a new disk of 500 blocks.
func begin(t *testing.T, size int) *pages.Tx {
	t.Helper()
	return lay(t, 500, size, 1).pages.Begin()
}

// pairs are what a tree is to have.
type pairs map[string]string

func (m pairs) keys() []string { return slices.Sorted(maps.Keys(m)) }

// next is what Next has to answer.
func (m pairs) next(key string) (api.Pair, bool) {
	for _, k := range m.keys() {
		if k > key {
			return api.Pair{Key: k, Value: m[k]}, true
		}
	}
	return api.Pair{}, false
}

func text(size int) string { return strings.Repeat("k", size) }

// numbered are so many keys of four bytes, that rise.
func numbered(count int) []string {
	var l []string
	for k := range count {
		l = append(l, fmt.Sprintf("%04d", k))
	}
	return l
}

func reversed(l []string) []string {
	l = slices.Clone(l)
	slices.Reverse(l)
	return l
}

func shuffled(l []string, seed int64) []string {
	l = slices.Clone(l)
	rand.New(rand.NewSource(seed)).Shuffle(len(l), func(i, j int) { l[i], l[j] = l[j], l[i] })
	return l
}

// orders are ways to go through keys that rise: as they do, as they fall, from the middle on, from both ends, and by chance.
func orders(keys []string) [][]string {
	half := len(keys) / 2
	var ends []string
	for k := range keys {
		if k%2 == 0 {
			ends = append(ends, keys[k/2])
		} else {
			ends = append(ends, keys[len(keys)-1-k/2])
		}
	}
	return [][]string{keys, reversed(keys), slices.Concat(keys[half:], keys[:half]), ends, shuffled(keys, 1), shuffled(keys, 2)}
}

// mostOf is layer 8's Most.
func mostOf(t *testing.T, size int) int {
	t.Helper()
	most, e := node.Most(size)
	if e != api.OK {
		t.Fatalf("Most(%d): %d", size, e)
	}
	return most
}

// told is short enough to be read.
func told(s string) string {
	if len(s) > 20 {
		return fmt.Sprintf("%q.. of %d bytes", s[:20], len(s))
	}
	return fmt.Sprintf("%q", s)
}

func wantGet(t *testing.T, x *pages.Tx, key, value string, is bool, e api.Errno) {
	t.Helper()
	if v, got, f := btree.Get(x, key); v != value || got != is || f != e {
		t.Errorf("Get(%s) = %s, %v, %d; want %s, %v, %d", told(key), told(v), got, f, told(value), is, e)
	}
}

func wantPut(t *testing.T, x *pages.Tx, key, value string, had bool, e api.Errno) {
	t.Helper()
	if got, f := btree.Put(x, key, value); got != had || f != e {
		t.Errorf("Put(%s, %s) = %v, %d; want %v, %d", told(key), told(value), got, f, had, e)
	}
}

func wantDelete(t *testing.T, x *pages.Tx, key string, had bool, e api.Errno) {
	t.Helper()
	if got, f := btree.Delete(x, key); got != had || f != e {
		t.Errorf("Delete(%s) = %v, %d; want %v, %d", told(key), got, f, had, e)
	}
}

func wantNext(t *testing.T, x *pages.Tx, key string, p api.Pair, is bool, e api.Errno) {
	t.Helper()
	if q, got, f := btree.Next(x, key); q != p || got != is || f != e {
		t.Errorf("Next(%s) = %.40q, %v, %d; want %.40q, %v, %d", told(key), q, got, f, p, is, e)
	}
}

func wantCheck(t *testing.T, x *pages.Tx, count int, e api.Errno) {
	t.Helper()
	if n, f := btree.Check(x); n != count || f != e {
		t.Errorf("Check = %d, %d; want %d, %d", n, f, count, e)
	}
}

// wantAll: each call answers this error, and nothing beside it.
func wantAll(t *testing.T, x *pages.Tx, e api.Errno) {
	t.Helper()
	for _, key := range []string{"a", "b", "0001"} {
		wantGet(t, x, key, "", false, e)
		wantPut(t, x, key, "1", false, e)
		wantDelete(t, x, key, false, e)
		wantNext(t, x, key, api.Pair{}, false, e)
	}
	wantNext(t, x, "", api.Pair{}, false, e)
	wantCheck(t, x, 0, e)
}

// put puts keys that are not there.
func put(t *testing.T, x *pages.Tx, has pairs, keys ...string) {
	t.Helper()
	for _, key := range keys {
		wantPut(t, x, key, "v", false, api.OK)
		has[key] = "v"
	}
}

// used are the pages that a transaction has, and their bytes.
func used(x *pages.Tx, blocks int) map[int][]byte {
	m := map[int][]byte{}
	for page := range blocks {
		if b, e := x.Read(page); e == api.OK {
			m[page] = b
		}
	}
	return m
}

// state is all that can be seen of a transaction of 500 blocks.
func state(x *pages.Tx) string {
	root, e := x.Root()
	return fmt.Sprintf("%d, %d: %x", root, e, used(x, 500))
}

// wantPages: so many are used.
func wantPages(t *testing.T, x *pages.Tx, count int) {
	t.Helper()
	if got := len(used(x, 500)); got != count {
		t.Errorf("%d pages are used; want %d", got, count)
	}
}

// wantLean: the tree's pages are just those that are used, and none of them is more than it needs: none has nothing, the root has two below it, and no two that stand beside one another have room in one.
func wantLean(t *testing.T, x *pages.Tx) {
	t.Helper()
	all := used(x, 500)
	root, e := x.Root()
	if e != api.OK {
		t.Fatalf("Root: %d", e)
	}
	reached := 0
	var look func(page int) api.Node
	look = func(page int) api.Node {
		reached++
		n, e := node.Parse(all[page])
		if e != api.OK || len(n.Pairs)+len(n.Children) == 0 {
			t.Fatalf("page %d has %x", page, all[page])
		}
		var last api.Node
		for k, child := range n.Children {
			now := look(child)
			if k > 0 {
				both := node.Size(last) + node.Size(now) - 3
				if !now.Leaf {
					both += 1 + len(n.Keys[k-1])
				}
				if both <= x.Bytes() {
					t.Fatalf("below page %d two have room in one: %v, %v", page, last, now)
				}
			}
			last = now
		}
		return n
	}
	if root != 0 {
		if n := look(root); len(n.Children) == 1 {
			t.Errorf("the root has but one below it")
		}
	}
	if reached != len(all) {
		t.Errorf("%d pages are used, %d are the tree's", len(all), reached)
	}
}

// wantTree: each call tells of just these pairs.
func wantTree(t *testing.T, x *pages.Tx, has pairs) {
	t.Helper()
	wantCheck(t, x, len(has), api.OK)
	keys := has.keys()
	last := ""
	for k, key := range keys {
		p := api.Pair{Key: key, Value: has[key]}
		wantGet(t, x, key, has[key], true, api.OK)
		wantNext(t, x, last, p, true, api.OK)
		between := key + "\x00"
		if k+1 == len(keys) || between < keys[k+1] {
			wantGet(t, x, between, "", false, api.OK)
		}
		if below := key[:len(key)-1]; below > last {
			wantGet(t, x, below, "", false, api.OK)
			wantNext(t, x, below, p, true, api.OK)
		}
		last = key
	}
	wantNext(t, x, last, api.Pair{}, false, api.OK)
	wantNext(t, x, last+"\x00", api.Pair{}, false, api.OK)
	if root, e := x.Root(); (root == 0) != (len(has) == 0) || e != api.OK {
		t.Errorf("Root = %d, %d of a tree with %d keys", root, e, len(has))
	}
	if t.Failed() {
		t.FailNow()
	}
}

func TestP9_1Examples(t *testing.T) {
	x := begin(t, 64)
	wantPut(t, x, "b", "1", false, api.OK)
	wantPut(t, x, "a", "2", false, api.OK)
	wantPut(t, x, "b", "3", true, api.OK)
	wantGet(t, x, "b", "3", true, api.OK)
	wantNext(t, x, "", api.Pair{Key: "a", Value: "2"}, true, api.OK)
	wantNext(t, x, "a", api.Pair{Key: "b", Value: "3"}, true, api.OK)
	wantNext(t, x, "b", api.Pair{}, false, api.OK)
	wantDelete(t, x, "a", true, api.OK)
	wantDelete(t, x, "a", false, api.OK)
	wantCheck(t, x, 1, api.OK)
}

func TestP9_1WithoutKeys(t *testing.T) {
	x := begin(t, 64)
	wantTree(t, x, pairs{})
	for _, key := range []string{"", "a", "\xff", text(300), text(70000)} {
		wantGet(t, x, key, "", false, api.OK)
		wantNext(t, x, key, api.Pair{}, false, api.OK)
		wantDelete(t, x, key, false, api.OK)
	}
	wantTree(t, x, pairs{})
	wantPages(t, x, 0)
}

// TestP9_1Nil: of a transaction that is nil; whatever the texts are.
func TestP9_1Nil(t *testing.T) {
	wantAll(t, nil, api.ErrNil)
	for _, s := range []string{"", text(256), text(70000)} {
		wantPut(t, nil, s, s, false, api.ErrNil)
		wantGet(t, nil, s, "", false, api.ErrNil)
		wantDelete(t, nil, s, false, api.ErrNil)
		wantNext(t, nil, s, api.Pair{}, false, api.ErrNil)
	}
	if _, e := disk.New(10, 4097); e == api.OK {
		t.Error("there is a disk whose pages have 4097 bytes")
	}
	var none *pages.Pages
	wantAll(t, none.Begin(), api.ErrNil)
}

func TestP9_1PageSizes(t *testing.T) {
	for _, size := range []int{16, 17, 32, 60, 62, 63} {
		r := lay(t, 500, size, 1)
		x := r.pages.Begin()
		wantAll(t, x, api.ErrArg)
		wantPut(t, x, "", "", false, api.ErrArg)
		wantPages(t, x, 0)
		page, _ := x.Take()
		x.SetRoot(page)
		was := state(x)
		wantAll(t, x, api.ErrArg)
		if state(x) != was {
			t.Errorf("pages of %d bytes are changed", size)
		}
		x = r.pages.Begin()
		r.disk.Crash(nil)
		wantAll(t, x, api.ErrArg)
	}
	for _, size := range []int{64, 65, 66, 67, 127, 128, 129, 1052, 1056, 2072, 4095, 4096} {
		x := begin(t, size)
		has := pairs{}
		put(t, x, has, numbered(40)...)
		wantTree(t, x, has)
		for _, key := range has.keys() {
			wantDelete(t, x, key, true, api.OK)
		}
		wantTree(t, x, pairs{})
		wantPages(t, x, 0)
	}
}

// TestP9_1Done: each call of a transaction that is done, whatever made it so.
func TestP9_1Done(t *testing.T) {
	for name, end := range map[string]func(r *rig, x *pages.Tx){
		"committed": func(r *rig, x *pages.Tx) { x.Commit() },
		"too much": func(r *rig, x *pages.Tx) {
			for k := range 200 {
				btree.Put(x, fmt.Sprintf("%d", k), "1")
			}
			if e := x.Commit(); e != api.ErrLog {
				t.Errorf("Commit: %d; want ErrLog", e)
			}
		},
		"a later one": func(r *rig, x *pages.Tx) { r.pages.Begin() },
		"power":       func(r *rig, x *pages.Tx) { r.disk.Crash(nil); btree.Get(x, "b"); r.disk.On() },
	} {
		for _, count := range []int{0, 1, 30} {
			r := lay(t, 500, 64, 20)
			put(t, r.pages.Begin(), pairs{})
			x := r.pages.Begin()
			put(t, x, pairs{}, numbered(count)...)
			if e := x.Commit(); e != api.OK {
				t.Fatalf("Commit: %d", e)
			}
			x = r.pages.Begin()
			end(r, x)
			wantAll(t, x, api.ErrArg)
			for _, s := range []string{"", text(256)} {
				wantPut(t, x, s, s, false, api.ErrArg)
				wantGet(t, x, s, "", false, api.ErrArg)
				wantDelete(t, x, s, false, api.ErrArg)
				wantNext(t, x, s, api.Pair{}, false, api.ErrArg)
			}
			r.open(t)
			wantCheck(t, r.pages.Begin(), count, api.OK)
			if t.Failed() {
				t.Fatalf("%s, %d keys", name, count)
			}
		}
	}
}

// TestP9_1WhatMayNotBePut: and nothing is changed.
func TestP9_1WhatMayNotBePut(t *testing.T) {
	for _, size := range []int{64, 65, 68, 128, 1051, 1052, 1056, 2068, 2072, 4096} {
		most := mostOf(t, size)
		for _, count := range []int{0, 1, 40} {
			x := begin(t, size)
			has := pairs{}
			put(t, x, has, numbered(count)...)
			was := state(x)
			for _, l := range [][2]int{{0, 0}, {0, 1}, {0, most}, {0, most + 1}, {0, 255}, {0, 256}, {256, 0}, {256, 1}, {1, 256}, {70000, 0}, {1, 70000}, {most + 1, 0}, {most, 1}, {1, most}, {most / 2, most/2 + 2}} {
				may := l[0] > 0 && l[0] <= 255 && l[1] <= 255 && l[0]+l[1] <= most
				if !may {
					wantPut(t, x, text(l[0]), text(l[1]), false, api.ErrArg)
				}
			}
			wantPut(t, x, "0000", text(min(most-4, 255)+1), false, api.ErrArg)
			if state(x) != was {
				t.Errorf("pages of %d bytes: what may not be put changes %d keys", size, count)
			}
			wantTree(t, x, has)
		}
	}
}

// TestP9_1WrongWithoutPower: what may not be put is told first.
func TestP9_1WrongWithoutPower(t *testing.T) {
	r := lay(t, 500, 64, 1)
	x := r.pages.Begin()
	r.disk.Crash(nil)
	wantPut(t, x, "", "", false, api.ErrArg)
	wantPut(t, x, "a", text(8), false, api.ErrArg)
	r.disk.On()
	wantPut(t, x, "a", text(7), false, api.OK)
}

// TestP9_1LongestTexts: keys and values of just as many bytes as may be.
func TestP9_1LongestTexts(t *testing.T) {
	for _, size := range []int{64, 65, 68, 128, 1051, 1052, 1056, 2068, 2072, 4096} {
		most := mostOf(t, size)
		for key := 1; key <= min(most, 255); key++ {
			if key > 9 && key < min(most, 255)-9 && key%50 > 0 {
				continue
			}
			x := begin(t, size)
			has := pairs{text(key): strings.Repeat("v", min(most-key, 255))}
			for k, v := range has {
				wantPut(t, x, k, v, false, api.OK)
				wantTree(t, x, has)
				wantPut(t, x, k, v, true, api.OK)
			}
			wantTree(t, x, has)
			wantDelete(t, x, text(key), true, api.OK)
			wantPages(t, x, 0)
		}
	}
}

// TestP9_1ManyLongestTexts: each of them as long as may be, in trees of many pages.
func TestP9_1ManyLongestTexts(t *testing.T) {
	for _, size := range []int{64, 65, 67, 68, 128, 1052, 2072, 4096} {
		most := mostOf(t, size)
		for _, each := range []int{min(most, 255), min(most/2, 255), 4} {
			var keys []string
			for k := range 150 {
				keys = append(keys, text(each)[:each-3]+fmt.Sprintf("%03d", k))
			}
			for _, order := range orders(keys)[:5] {
				x := begin(t, size)
				has := pairs{}
				for _, key := range order {
					has[key] = strings.Repeat("v", min(most-each, 255))
					wantPut(t, x, key, has[key], false, api.OK)
				}
				wantTree(t, x, has)
				wantLean(t, x)
				for k, key := range keys {
					wantDelete(t, x, key, true, api.OK)
					if k%5 == 0 {
						wantLean(t, x)
					}
				}
				wantPages(t, x, 0)
			}
		}
	}
}

// TestP9_1PutAgain: each key of a tree with the same value, a shorter and a longer one; and none.
func TestP9_1PutAgain(t *testing.T) {
	for _, count := range []int{1, 2, 7, 8, 9, 60, 200} {
		x := begin(t, 64)
		has := pairs{}
		put(t, x, has, numbered(count)...)
		for _, value := range []string{"v", "long", "", "vw", "LONG", "", "long", "long", "v"} {
			for at, key := range shuffled(numbered(count), int64(count)) {
				wantPut(t, x, key, value, true, api.OK)
				has[key] = value
				wantCheck(t, x, count, api.OK)
				if at%20 == 0 {
					wantLean(t, x)
				}
			}
			wantTree(t, x, has)
			wantLean(t, x)
		}
	}
}

// TestP9_1WhatIsNotThere: deleted, got and stepped from, at the ends and between; and nothing is changed.
func TestP9_1WhatIsNotThere(t *testing.T) {
	for _, count := range []int{1, 2, 8, 9, 60, 200} {
		x := begin(t, 64)
		has := pairs{}
		put(t, x, has, numbered(count)...)
		was := state(x)
		others := []string{"", "\x00", "0", "000", "/", ":", "9", "99999", "\xff", text(9), text(255), text(256), text(70000)}
		for _, key := range numbered(count) {
			others = append(others, key[:3], key+"\x00", key+"5", key[:3]+"\xff", key+text(300))
		}
		for _, key := range others {
			p, is := has.next(key)
			wantDelete(t, x, key, false, api.OK)
			wantGet(t, x, key, "", false, api.OK)
			wantNext(t, x, key, p, is, api.OK)
		}
		if state(x) != was {
			t.Errorf("%d keys: what is not there changes something", count)
		}
		wantTree(t, x, has)
	}
}

// TestP9_1AnyBytes: keys are held against each other byte by byte, whatever the bytes are.
func TestP9_1AnyBytes(t *testing.T) {
	x := begin(t, 64)
	has := pairs{}
	var keys []string
	for a := range 256 {
		keys = append(keys, string([]byte{byte(a)}))
		if a%5 == 0 {
			keys = append(keys, string([]byte{byte(a), 0}), string([]byte{byte(a), 0xff}), string([]byte{byte(a), 0, 0}))
		}
	}
	for _, key := range shuffled(keys, 91) {
		wantPut(t, x, key, key, false, api.OK)
		has[key] = key
	}
	wantTree(t, x, has)
	wantLean(t, x)
	for _, key := range shuffled(keys, 92) {
		wantDelete(t, x, key, true, api.OK)
		delete(has, key)
		if len(has)%40 == 0 {
			wantTree(t, x, has)
		}
	}
	wantPages(t, x, 0)
}

// TestP9_1Down: without power each call answers ErrDown as soon as it needs a page, and the transaction is done.
func TestP9_1Down(t *testing.T) {
	calls := []func(x *pages.Tx){
		func(x *pages.Tx) { wantGet(t, x, "0015", "", false, api.ErrDown) },
		func(x *pages.Tx) { wantPut(t, x, "0015", "w", false, api.ErrDown) },
		func(x *pages.Tx) { wantPut(t, x, "00155", "w", false, api.ErrDown) },
		func(x *pages.Tx) { wantDelete(t, x, "0015", false, api.ErrDown) },
		func(x *pages.Tx) { wantDelete(t, x, "00155", false, api.ErrDown) },
		func(x *pages.Tx) { wantNext(t, x, "0015", api.Pair{}, false, api.ErrDown) },
		func(x *pages.Tx) { wantCheck(t, x, 0, api.ErrDown) },
	}
	for _, call := range calls {
		for _, warm := range []bool{false, true} {
			r := lay(t, 500, 64, 20)
			x := r.pages.Begin()
			has := pairs{}
			put(t, x, has, numbered(30)...)
			if e := x.Commit(); e != api.OK {
				t.Fatalf("Commit: %d", e)
			}
			x = r.pages.Begin()
			if warm { // the map is known, and a leaf at the other end is changed
				wantPut(t, x, "0029", "w", true, api.OK)
			}
			r.disk.Crash(nil)
			call(x)
			wantAll(t, x, api.ErrArg)
			r.open(t)
			wantTree(t, r.pages.Begin(), has)
		}
	}
}

// TestP9_1DownOnTheWay: a transaction knows its root, and some of the pages below it, without power; the call that needs another one answers ErrDown.
func TestP9_1DownOnTheWay(t *testing.T) {
	calls := []func(x *pages.Tx) (bool, api.Errno){
		func(x *pages.Tx) (bool, api.Errno) { _, is, e := btree.Get(x, "d"); return is, e },
		func(x *pages.Tx) (bool, api.Errno) { return btree.Put(x, "d", "") },
		func(x *pages.Tx) (bool, api.Errno) { return btree.Delete(x, "d") },
		func(x *pages.Tx) (bool, api.Errno) { return btree.Delete(x, "a") },
		func(x *pages.Tx) (bool, api.Errno) { _, is, e := btree.Next(x, "d"); return is, e },
		func(x *pages.Tx) (bool, api.Errno) { _, is, e := btree.Next(x, "b"); return is, e },
		func(x *pages.Tx) (bool, api.Errno) { n, e := btree.Check(x); return n != 0, e },
	}
	nodes := []api.Node{inner([]int{1, 2, 3}, "c", "e"), leaf("a", "b"), leaf("c", "d"), leaf("e", "f")}
	needs := [][]int{{0, 2}, {0, 2, 1, 3}, {0, 2, 1, 3}, {0, 1, 2}, {0, 2, 3}, {0, 1, 2}, {0, 1, 2, 3}} // of each call
	for at, call := range calls {
		for missing := range nodes {
			r := lay(t, 500, 64, 20)
			b := &bed{x: r.pages.Begin(), first: 2}
			for range nodes {
				b.x.Take()
			}
			b.writeAll(t, nodes)
			b.x.SetRoot(2)
			if e := b.x.Commit(); e != api.OK {
				t.Fatalf("Commit: %d", e)
			}
			b.x = r.pages.Begin()
			b.x.SetRoot(2)
			for place, n := range nodes {
				if place != missing {
					b.write(t, place, n)
				}
			}
			r.disk.Crash(nil)
			is, e := call(b.x)
			if slices.Contains(needs[at], missing) {
				if is || e != api.ErrDown {
					t.Errorf("call %d without page %d: %v, %d", at, missing, is, e)
				}
				wantAll(t, b.x, api.ErrArg)
			} else if !is || e != api.OK {
				t.Errorf("call %d, which needs no page %d: %v, %d", at, missing, is, e)
			}
		}
	}
}

// TestP9_2PutAndDelete: in each order of both; Check behind each of them, and all pages back.
func TestP9_2PutAndDelete(t *testing.T) {
	for _, count := range []int{1, 2, 5, 7, 8, 9, 10, 20, 49, 120} {
		keys := numbered(count)
		for _, order := range orders(keys) {
			for at, other := range append(orders(keys), order, reversed(order)) {
				r := lay(t, 500, 64, 1)
				free, _ := r.pages.Free()
				x := r.pages.Begin()
				has := pairs{}
				for _, key := range order {
					put(t, x, has, key)
					wantCheck(t, x, len(has), api.OK)
					if at == 0 {
						wantLean(t, x)
					}
				}
				wantTree(t, x, has)
				for k, key := range other {
					wantDelete(t, x, key, true, api.OK)
					delete(has, key)
					wantCheck(t, x, len(has), api.OK)
					wantLean(t, x)
					if k%30 == 0 {
						wantTree(t, x, has)
					}
				}
				wantTree(t, x, has)
				wantPages(t, x, 0)
				if e := x.Commit(); e != api.OK {
					t.Errorf("Commit: %d", e)
				}
				if n, e := r.pages.Free(); n != free || e != api.OK {
					t.Fatalf("Free = %d, %d; want %d", n, e, free)
				}
			}
		}
	}
}

// TestP9_2OneLeaf: as many as just fill it, one more, and one less again.
func TestP9_2OneLeaf(t *testing.T) {
	for _, size := range []int{64, 65, 66, 67, 68, 69, 70, 128, 4096} {
		room := (size - 3) / (2 + 4 + 1)
		keys := numbered(room + 1)
		for at, order := range orders(keys) {
			if size > 500 && at != 4 { // it takes long
				continue
			}
			for _, gone := range []string{keys[0], keys[room/2], keys[room]} {
				x := begin(t, size)
				has := pairs{}
				put(t, x, has, order[:room]...)
				wantPages(t, x, 1)
				wantTree(t, x, has)
				put(t, x, has, order[room])
				wantPages(t, x, 3)
				wantTree(t, x, has)
				wantDelete(t, x, gone, true, api.OK)
				delete(has, gone)
				wantPages(t, x, 1)
				wantTree(t, x, has)
			}
		}
	}
}

// TestP9_2TwoBecomeOne: also by a value that is put again and shorter, wherever it stands.
func TestP9_2TwoBecomeOne(t *testing.T) {
	for at := range 7 {
		x := begin(t, 64)
		has := pairs{}
		for k, key := range numbered(7) { // of 6 + 2 bytes 7 are 56; of one more byte each 63, which is too much
			has[key] = "vw"
			if k%3 == 0 {
				has[key] = "long"
			}
			wantPut(t, x, key, has[key], false, api.OK)
		}
		wantPages(t, x, 3)
		for k := range 7 {
			key := numbered(7)[(at+k)%7]
			wantPut(t, x, key, "v", true, api.OK)
			has[key] = "v"
			wantTree(t, x, has)
			wantLean(t, x)
		}
		wantPages(t, x, 1)
	}
}

// TestP9_2AllLengths: keys and values of all lengths that may be, in one tree.
func TestP9_2AllLengths(t *testing.T) {
	for _, size := range []int{64, 100, 1052, 4096} {
		most := mostOf(t, size)
		x := lay(t, 3000, size, 1).pages.Begin()
		has := pairs{}
		chance := rand.New(rand.NewSource(int64(size)))
		step := max(1, most/40)
		var keys []string
		for k := 1; k <= min(most, 255); k += step {
			for v := 0; v <= min(most-k, 255); v += step {
				b := make([]byte, k)
				chance.Read(b)
				if _, is := has[string(b)]; is {
					continue
				}
				has[string(b)] = strings.Repeat("v", v)
				keys = append(keys, string(b))
			}
		}
		for _, key := range shuffled(keys, 1) {
			wantPut(t, x, key, has[key], false, api.OK)
		}
		wantTree(t, x, has)
		for k, key := range shuffled(keys, 2) {
			wantDelete(t, x, key, true, api.OK)
			delete(has, key)
			if k%(len(keys)/7+1) == 0 {
				wantTree(t, x, has)
			}
		}
		wantTree(t, x, has)
		if n := len(used(x, 3000)); n != 0 {
			t.Errorf("%d pages are used", n)
		}
	}
}

// TestP9_2Full: when all pages are used; what needs no more is still answered.
func TestP9_2Full(t *testing.T) {
	for blocks := 3; blocks <= 40; blocks++ {
		for _, order := range orders(numbered(300)) {
			r := lay(t, blocks, 64, 10)
			x := r.pages.Begin()
			has := pairs{}
			full := ""
			for _, key := range order {
				had, e := btree.Put(x, key, "v")
				if e == api.ErrFull && !had {
					full = key
					break
				}
				if had || e != api.OK {
					t.Fatalf("Put(%q) = %v, %d", key, had, e)
				}
				has[key] = "v"
			}
			if full == "" || len(has) < 8 && blocks > 2 || len(used(x, blocks)) > blocks-2 {
				t.Fatalf("%d blocks: %d keys, not full", blocks, len(has))
			}
			x = r.pages.Begin() // the one that was answered ErrFull is not committed
			wantTree(t, x, pairs{})
			put(t, x, pairs{}, slices.DeleteFunc(slices.Clone(order), func(key string) bool { return has[key] == "" })...)
			wantTree(t, x, has)
			for key := range has {
				wantPut(t, x, key, "w", true, api.OK)
				has[key] = "w"
			}
			wantTree(t, x, has)
			for _, key := range shuffled(has.keys(), 3) {
				wantDelete(t, x, key, true, api.OK)
			}
			wantTree(t, x, pairs{})
			if n := len(used(x, blocks)); n != 0 {
				t.Fatalf("%d blocks: %d pages are used", blocks, n)
			}
		}
	}
}

// TestP9_2FullThoughNoneIsNeeded: a leaf that is cut has its first half joined with the one ahead of it, and so needs no page more.
func TestP9_2FullThoughNoneIsNeeded(t *testing.T) {
	r := lay(t, 5, 64, 1)
	x := r.pages.Begin()
	has := pairs{}
	put(t, x, has, numbered(13)...)
	for _, key := range []string{"0002", "0003", "0004"} {
		wantDelete(t, x, key, true, api.OK)
		delete(has, key)
	}
	wantLean(t, x)
	put(t, x, has, "0008x")
	wantTree(t, x, has)
	wantLean(t, x)
	wantPages(t, x, 3)
}

// bed lays pages as they are told, the first one the root's.
type bed struct {
	x     *pages.Tx
	first int
}

func newBed(t *testing.T, size, count int) *bed {
	t.Helper()
	b := &bed{x: begin(t, size)}
	for k := range count {
		page, e := b.x.Take()
		if e != api.OK {
			t.Fatalf("Take: %d", e)
		}
		if k == 0 {
			b.first = page
		}
	}
	if e := b.x.SetRoot(b.first); e != api.OK {
		t.Fatalf("SetRoot: %d", e)
	}
	return b
}

// write lays a node; its Children are told from 0 on, 0 being the root's page.
func (b *bed) write(t *testing.T, place int, n api.Node) {
	t.Helper()
	n.Children = slices.Clone(n.Children)
	for k := range n.Children {
		n.Children[k] += b.first
	}
	page, e := node.Bytes(n, b.x.Bytes())
	if e != api.OK {
		t.Fatalf("Bytes(%v): %d", n, e)
	}
	if e := b.x.Write(b.first+place, page); e != api.OK {
		t.Fatalf("Write: %d", e)
	}
}

func (b *bed) writeAll(t *testing.T, nodes []api.Node) {
	t.Helper()
	for place, n := range nodes {
		b.write(t, place, n)
	}
}

func leaf(keys ...string) api.Node {
	n := api.Node{Leaf: true}
	for _, key := range keys {
		n.Pairs = append(n.Pairs, api.Pair{Key: key, Value: "v" + key})
	}
	return n
}

func inner(children []int, keys ...string) api.Node { return api.Node{Children: children, Keys: keys} }

// treeOf is what the words of the chapter say of the pages: the pairs, or that this is no tree. Each key of a leaf is held against all Keys above it.
func treeOf(x *pages.Tx) (pairs, bool) {
	root, _ := x.Root()
	has := pairs{}
	if root == 0 {
		return has, true
	}
	reached, deep, last := map[int]bool{}, -1, ""
	var above []func(key string) bool
	var look func(page, depth int) bool
	look = func(page, depth int) bool {
		b, e := x.Read(page)
		if e != api.OK || reached[page] {
			return false
		}
		reached[page] = true
		n, e := node.Parse(b)
		if e != api.OK {
			return false
		}
		if n.Leaf {
			if deep >= 0 && deep != depth {
				return false
			}
			deep = depth
		}
		for _, p := range n.Pairs {
			for _, lies := range above {
				if !lies(p.Key) {
					return false
				}
			}
			if p.Key <= last {
				return false
			}
			last = p.Key
			has[p.Key] = p.Value
		}
		for k, child := range n.Children {
			above = append(above, func(key string) bool { place, _ := node.Place(n, key); return place == k })
			if !look(child, depth+1) {
				return false
			}
			above = above[:len(above)-1]
		}
		return true
	}
	if !look(root, 0) {
		return nil, false
	}
	return has, true
}

// wantAsTold: Check tells what the words do; no call is without an end; one that answers an error changes nothing; and of a tree each call is right.
func wantAsTold(t *testing.T, fresh func() *pages.Tx, keys []string) (isTree bool) {
	t.Helper()
	x := fresh()
	was := state(x)
	has, isTree := treeOf(x)
	if isTree {
		wantCheck(t, x, len(has), api.OK)
	} else {
		wantCheck(t, x, 0, api.ErrForm)
	}
	for _, key := range keys {
		v, is, e := btree.Get(x, key)
		if e != api.OK && (e != api.ErrForm || is || v != "") {
			t.Errorf("Get(%q) = %q, %v, %d", key, v, is, e)
		}
		p, is, e := btree.Next(x, key)
		if e != api.OK && (e != api.ErrForm || is || p != api.Pair{}) {
			t.Errorf("Next(%q) = %q, %v, %d", key, p, is, e)
		}
		if is && p.Key <= key || !is && p != (api.Pair{}) {
			t.Errorf("Next(%q) = %q, %v", key, p, is)
		}
		if isTree {
			wantGet(t, x, key, has[key], has[key] != "", api.OK)
			next, is := has.next(key)
			wantNext(t, x, key, next, is, api.OK)
		}
	}
	if state(x) != was {
		t.Errorf("reading changes %s to %s", was, state(x))
	}
	for _, key := range keys {
		for _, value := range []string{"", "vwxy", "-"} {
			x := fresh()
			wasTree, _ := treeOf(x)
			had, e := false, api.OK
			if value == "-" {
				had, e = btree.Delete(x, key)
				delete(wasTree, key)
			} else if key != "" {
				had, e = btree.Put(x, key, value)
				if isTree {
					wasTree[key] = value
				}
			}
			if e != api.OK && (e != api.ErrForm || had || state(x) != was) {
				t.Errorf("%q, %q: %v, %d, from %s to %s", key, value, had, e, was, state(x))
			}
			if isTree && e == api.OK {
				if _, is := has[key]; had != is {
					t.Errorf("%q, %q: %v", key, value, had)
				}
				if got, ok := treeOf(x); !ok || !maps.Equal(got, wasTree) {
					t.Errorf("%q, %q: %v, %v; want %v", key, value, got, ok, wasTree)
				}
			}
			if isTree && e != api.OK {
				t.Errorf("%q, %q: %d of a tree", key, value, e)
			}
		}
		if t.Failed() {
			t.Fatalf("key %q of %s", key, was)
		}
	}
	return isTree
}

// TestP9_2NoTree: what the chapter names, and its like, in trees of two and of three levels.
func TestP9_2NoTree(t *testing.T) {
	garbage := func(place int, page []byte) func(*bed) {
		return func(b *bed) { b.x.Write(b.first+place, page) }
	}
	turned := func(place, at int, to byte) func(*bed) {
		return func(b *bed) {
			page, _ := b.x.Read(b.first + place)
			page[at] = to
			b.x.Write(b.first+place, page)
		}
	}
	two := []api.Node{inner([]int{1, 2, 3}, "c", "e"), leaf("a", "b"), leaf("c", "d"), leaf("e", "f")}
	three := []api.Node{inner([]int{1, 2}, "e"), inner([]int{3, 4}, "c"), inner([]int{5, 6}, "g"), leaf("a", "b"), leaf("c", "d"), leaf("e", "f"), leaf("g", "h")}
	with := func(nodes []api.Node, place int, n api.Node) []api.Node {
		nodes = slices.Clone(nodes)
		nodes[place] = n
		return nodes
	}
	for name, c := range map[string]struct {
		nodes []api.Node
		then  func(*bed)
	}{
		"the root is no node":            {two, garbage(0, make([]byte, 64))},
		"a leaf is no node":              {two, garbage(2, make([]byte, 64))},
		"the last leaf is no node":       {two, garbage(3, make([]byte, 64))},
		"a lower node is none":           {three, garbage(2, bytes.Repeat([]byte{0xff}, 64))},
		"bytes behind a node":            {two, turned(1, 63, 1)},
		"bytes behind the root":          {two, turned(0, 63, 1)},
		"another kind":                   {two, turned(3, 0, 3)},
		"another kind that is known":     {two, turned(3, 0, 2)},
		"one pair more":                  {two, turned(1, 2, 3)},
		"keys that fall in a leaf":       {two, turned(1, 4, 'z')},
		"keys alike in a leaf":           {two, turned(1, 4, 'b')},
		"a page that is not used":        {with(two, 0, inner([]int{1, 2, 9}, "c", "e")), func(*bed) {}},
		"a page that there is not":       {with(two, 0, inner([]int{1, 2, 600}, "c", "e")), func(*bed) {}},
		"the root's block":               {with(two, 0, inner([]int{1, 2, -1}, "c", "e")), func(*bed) {}},
		"a page given back":              {two, func(b *bed) { b.x.Give(b.first + 2) }},
		"a leaf reached twice":           {with(two, 0, inner([]int{1, 1, 3}, "c", "e")), func(*bed) {}},
		"a leaf reached again":           {with(two, 0, inner([]int{1, 2, 1}, "c", "e")), func(*bed) {}},
		"an empty leaf reached twice":    {[]api.Node{inner([]int{1, 1}, "c"), leaf()}, func(*bed) {}},
		"the root below itself":          {with(two, 0, inner([]int{1, 2, 0}, "c", "e")), func(*bed) {}},
		"the root alone below itself":    {[]api.Node{inner([]int{0})}, func(*bed) {}},
		"two below each other":           {[]api.Node{inner([]int{1}), inner([]int{0})}, func(*bed) {}},
		"a node below itself":            {with(three, 2, inner([]int{2, 6}, "g")), func(*bed) {}},
		"a leaf of two nodes":            {with(three, 2, inner([]int{4, 6}, "g")), func(*bed) {}},
		"a node reached twice":           {with(three, 0, inner([]int{1, 1}, "e")), func(*bed) {}},
		"leaves changed about":           {with(two, 0, inner([]int{2, 1, 3}, "c", "e")), func(*bed) {}},
		"a key above its Key":            {with(two, 1, leaf("a", "c1")), func(*bed) {}},
		"a key at its Key":               {with(two, 1, leaf("a", "c")), func(*bed) {}},
		"a key below its Key":            {with(two, 2, leaf("b1", "d")), func(*bed) {}},
		"a key above the next Key":       {with(two, 2, leaf("c", "g")), func(*bed) {}},
		"a last key below its Key":       {with(two, 3, leaf("d1", "f")), func(*bed) {}},
		"a Key too low":                  {with(two, 0, inner([]int{1, 2, 3}, "b", "e")), func(*bed) {}},
		"a Key too high":                 {with(two, 0, inner([]int{1, 2, 3}, "c1", "e")), func(*bed) {}},
		"a Key of the root too low":      {with(three, 0, inner([]int{1, 2}, "d")), func(*bed) {}},
		"a Key of the root too high":     {with(three, 0, inner([]int{1, 2}, "e1")), func(*bed) {}},
		"above a Key two levels up":      {with(three, 4, leaf("c", "e")), func(*bed) {}},
		"far above it":                   {with(three, 4, leaf("c", "z")), func(*bed) {}},
		"below a Key two levels up":      {with(three, 5, leaf("d1", "f")), func(*bed) {}},
		"above a Key, below a lower one": {[]api.Node{inner([]int{1, 2}, "d"), inner([]int{3, 4}, "f"), inner([]int{5}), leaf("a", "e"), leaf(), leaf("g")}, func(*bed) {}},
		"below a Key, above a lower one": {[]api.Node{inner([]int{1, 2}, "d"), inner([]int{3}), inner([]int{4, 5}, "b"), leaf("a"), leaf(), leaf("c", "e")}, func(*bed) {}},
		"a leaf that lies higher":        {[]api.Node{inner([]int{1, 2}, "e"), inner([]int{3, 4}, "c"), leaf("e"), leaf("a"), leaf("c")}, func(*bed) {}},
		"a leaf that lies lower":         {[]api.Node{inner([]int{1, 2}, "c"), leaf("a"), inner([]int{3, 4}, "e"), leaf("c"), leaf("e")}, func(*bed) {}},
		"an empty leaf that does":        {[]api.Node{inner([]int{1, 2}, "c"), leaf(), inner([]int{3}), leaf("c")}, func(*bed) {}},
		"an empty one behind it":         {[]api.Node{inner([]int{1, 2}, "c"), inner([]int{3}), leaf(), leaf("a")}, func(*bed) {}},
	} {
		fresh := func() *pages.Tx {
			b := newBed(t, 64, len(c.nodes))
			b.writeAll(t, c.nodes)
			c.then(b)
			return b.x
		}
		if wantAsTold(t, fresh, []string{"", "a", "b", "b1", "c", "c1", "d", "e", "f", "g", "h", "z"}) || t.Failed() {
			t.Errorf("%s", name)
		}
	}
}

// TestP9_2RootThatIsNone: the root's block may tell of any page.
func TestP9_2RootThatIsNone(t *testing.T) {
	for _, root := range [][4]byte{{1}, {2}, {3}, {0xff}, {0, 1}, {0, 2}, {0, 0, 1}, {0, 0, 0, 1}, {0xff, 0xff, 0xff, 0xff}} {
		d, _ := disk.New(502, 64)
		w, _ := wal.Open(d, 1)
		page := make([]byte, 64)
		copy(page, root[:])
		if e := w.Commit([]api.Change{{Sector: 1, Bytes: page}}); e != api.OK {
			t.Fatalf("Commit: %d", e)
		}
		p, _ := pages.Open(w)
		x := p.Begin()
		was := state(x)
		wantAll(t, x, api.ErrForm)
		if state(x) != was {
			t.Errorf("root %v: something is changed", root)
		}
	}
}

// TestP9_2TreesOfOthers: trees that are laid otherwise than Put does are trees, too.
func TestP9_2TreesOfOthers(t *testing.T) {
	for name, nodes := range map[string][]api.Node{
		"a leaf":                  {leaf("a", "c")},
		"an empty leaf":           {leaf()},
		"nodes with one below":    {inner([]int{1}), inner([]int{2}), inner([]int{3}), leaf("a", "c")},
		"an empty one below them": {inner([]int{1}), inner([]int{2}), leaf()},
		"empty leaves":            {inner([]int{1, 2, 3, 4}, "b", "d", "f"), leaf(), leaf("c"), leaf(), leaf("f", "g")},
		"empty leaves alone":      {inner([]int{1, 2}, "b"), leaf(), leaf()},
		"one key at the front":    {inner([]int{1, 2, 3}, "b", "d"), leaf("a"), leaf(), leaf()},
		"one key at the end":      {inner([]int{1, 2, 3}, "b", "d"), leaf(), leaf(), leaf("e")},
		"Keys that are no keys":   {inner([]int{1, 2, 3}, "b1", "d1"), leaf("a", "b"), leaf("c"), leaf("e", "f")},
		"empty below two":         {inner([]int{1, 2}, "d"), inner([]int{3, 4}, "b"), inner([]int{5}), leaf(), leaf("b", "c"), leaf()},
		"Keys that others rule":   {inner([]int{1, 2}, "d"), inner([]int{3, 4}, "f"), inner([]int{5, 6}, "b"), leaf("a", "c"), leaf(), leaf(), leaf("d", "f")},
		"a Key once more":         {inner([]int{1, 2}, "d"), inner([]int{3}), inner([]int{4, 5}, "d"), leaf("a", "c"), leaf(), leaf("d", "f")},
		"pages changed about":     {inner([]int{3, 2, 1}, "c", "e"), leaf("e", "f"), leaf("c", "d"), leaf("a", "b")},
	} {
		fresh := func() *pages.Tx {
			b := newBed(t, 64, len(nodes))
			b.writeAll(t, nodes)
			return b.x
		}
		if !wantAsTold(t, fresh, []string{"", "a", "b", "b1", "c", "d", "e", "f", "g", "z"}) {
			t.Errorf("%s: the tests tell that it is no tree", name)
		}
		if t.Failed() {
			t.Errorf("%s", name)
		}
	}
}

// TestP9_2OneAndEmptyLeaves: trees of others have no page, too, when their last key is deleted.
func TestP9_2OneAndEmptyLeaves(t *testing.T) {
	for _, nodes := range [][]api.Node{
		{leaf("a")},
		{inner([]int{1}), inner([]int{2}), leaf("a")},
		{inner([]int{1, 2}, "b"), leaf("a"), leaf()},
		{inner([]int{1, 2}, "a"), leaf(), leaf("a")},
		{inner([]int{1, 2}, "b"), inner([]int{3}), inner([]int{4}), leaf("a"), leaf()},
	} {
		b := newBed(t, 64, len(nodes))
		b.writeAll(t, nodes)
		wantDelete(t, b.x, "a", true, api.OK)
		wantTree(t, b.x, pairs{})
		wantPages(t, b.x, 0)
	}
}

// TestP9_2KeysThatCanNotBeCut: a Key that those above rule out would have to stand among them; that is ErrForm, and the pages that were taken till then are given back.
func TestP9_2KeysThatCanNotBeCut(t *testing.T) {
	full := func(first string) api.Node {
		n := api.Node{Leaf: true}
		for _, key := range numbered(6) {
			n.Pairs = append(n.Pairs, api.Pair{Key: first + key})
		}
		return n
	}
	b := newBed(t, 64, 9)
	b.writeAll(t, []api.Node{
		inner([]int{1, 2}, "d"),
		inner([]int{3, 4, 5, 6, 7}, "bbbbbbbb", "eeeeeee2", "eeeeeee3", "eeeeeee4"), inner([]int{8}),
		full("aaaa"), full("cccc"), leaf(), leaf(), leaf(), leaf("g"),
	})
	was := state(b.x)
	wantCheck(t, b.x, 13, api.OK)
	wantPut(t, b.x, "aaaa0003", "", true, api.OK)
	wantPut(t, b.x, "aaaaaaaa", "", false, api.ErrForm)
	if state(b.x) != was {
		t.Errorf("from %s to %s", was, state(b.x))
	}
}

// anyTree is a tree by chance, the root first: leaves of many keys, of few and of none, and nodes of one Child and of many.
func anyTree(chance *rand.Rand) []api.Node {
	var nodes []api.Node // from below on
	var level []int
	lows := []string{""} // the Key ahead of each of the level
	n := leaf()
	for k := range 60 {
		key := fmt.Sprintf("%02d", k)
		if len(n.Pairs) == 8 || chance.Intn(7) == 0 && lows[len(lows)-1] < key && k > 0 {
			nodes, level, lows = append(nodes, n), append(level, len(nodes)), append(lows, key)
			n = leaf()
		}
		if chance.Intn(2) == 0 {
			n.Pairs = append(n.Pairs, leaf(key).Pairs...)
		}
	}
	nodes, level = append(nodes, n), append(level, len(nodes))
	for len(level) > 1 || chance.Intn(4) == 0 {
		var above []int
		var aboveLows []string
		for len(level) > 0 {
			count := min(1+chance.Intn(6), len(level))
			above, aboveLows = append(above, len(nodes)), append(aboveLows, lows[0])
			nodes = append(nodes, inner(slices.Clone(level[:count]), slices.Clone(lows[1:count])...))
			level, lows = level[count:], lows[count:]
		}
		level, lows = above, aboveLows
	}
	slices.Reverse(nodes)
	for _, n := range nodes {
		for k, child := range n.Children {
			n.Children[k] = len(nodes) - 1 - child
		}
	}
	return nodes
}

// spoil makes some things otherwise, by which it mostly is no tree any more.
func spoil(chance *rand.Rand, nodes []api.Node) {
	key := func() string { return fmt.Sprintf("%02d", chance.Intn(60)) }
	n := &nodes[chance.Intn(len(nodes))]
	switch chance.Intn(6) {
	case 0:
		*n = leaf(key())
	case 1:
		*n = inner([]int{chance.Intn(len(nodes))})
	case 2:
		if len(n.Children) > 0 {
			n.Children[chance.Intn(len(n.Children))] = chance.Intn(len(nodes) + 1)
		}
	case 3:
		if len(n.Keys) > 0 {
			n.Keys[chance.Intn(len(n.Keys))] = key()
			slices.Sort(n.Keys)
			n.Keys = slices.Compact(n.Keys)
			n.Children = n.Children[:len(n.Keys)+1]
		}
	case 4:
		if len(n.Pairs) > 0 {
			n.Pairs[chance.Intn(len(n.Pairs))].Key = key()
			slices.SortFunc(n.Pairs, func(a, b api.Pair) int { return strings.Compare(a.Key, b.Key) })
			n.Pairs = slices.CompactFunc(n.Pairs, func(a, b api.Pair) bool { return a.Key == b.Key })
		}
	case 5:
		m := nodes[chance.Intn(len(nodes))]
		*n = api.Node{Leaf: m.Leaf, Pairs: slices.Clone(m.Pairs), Keys: slices.Clone(m.Keys), Children: slices.Clone(m.Children)}
	}
}

// TestP9_2ByChance: trees of others, whole and spoilt, held against the tests' own reading of the words.
func TestP9_2ByChance(t *testing.T) {
	chance := rand.New(rand.NewSource(92))
	trees, others := 0, 0
	for k := range 600 {
		nodes := anyTree(chance)
		for range chance.Intn(3) * (k % 2) {
			spoil(chance, nodes)
		}
		fresh := func() *pages.Tx {
			b := newBed(t, 64, len(nodes))
			b.writeAll(t, nodes)
			return b.x
		}
		keys := []string{"", "\xff"}
		for range 4 {
			keys = append(keys, fmt.Sprintf("%02d", chance.Intn(60)), fmt.Sprintf("%02d", chance.Intn(60))+"x")
		}
		if wantAsTold(t, fresh, keys) {
			trees++
		} else {
			others++
		}
	}
	if trees < 200 || others < 100 {
		t.Errorf("%d trees, and %d that are none", trees, others)
	}
}

// TestP9_2DeepAndLong: a way down of many pages ends, and is gone.
func TestP9_2DeepAndLong(t *testing.T) {
	r := lay(t, 20000, 64, 1)
	b := &bed{x: r.pages.Begin()}
	for k := range 19000 {
		page, e := b.x.Take()
		if e != api.OK {
			t.Fatalf("Take: %d", e)
		}
		if k == 0 {
			b.first = page
			b.x.SetRoot(page)
		}
		if k < 18999 {
			b.write(t, k, inner([]int{k + 1}))
		} else {
			b.write(t, k, leaf("a"))
		}
	}
	wantCheck(t, b.x, 1, api.OK)
	wantGet(t, b.x, "a", "va", true, api.OK)
	wantNext(t, b.x, "", api.Pair{Key: "a", Value: "va"}, true, api.OK)
	wantDelete(t, b.x, "a", true, api.OK)
	wantCheck(t, b.x, 0, api.OK)
	if n := len(used(b.x, 20000)); n != 0 {
		t.Errorf("%d pages are used", n)
	}
}

// anyOf is a text by chance, often a short one, of few letters.
func anyOf(chance *rand.Rand, least, most int) string {
	size := least + chance.Intn(min(3, most-least+1))
	if chance.Intn(3) == 0 {
		size = least + chance.Intn(most-least+1)
	}
	b := make([]byte, size)
	for k := range b {
		b[k] = "\x00abcdefgh\x7f\x80\xff"[chance.Intn(12)]
	}
	return string(b)
}

// step does one thing to a tree by chance, and to what it is to have.
func step(t *testing.T, chance *rand.Rand, x *pages.Tx, has pairs, most int) {
	t.Helper()
	key := anyOf(chance, 1, min(most, 255))
	if keys := has.keys(); len(keys) > 0 && chance.Intn(3) > 0 {
		key = keys[chance.Intn(len(keys))]
	}
	_, had := has[key]
	switch chance.Intn(8) {
	case 0, 1, 2, 3:
		value := anyOf(chance, 0, min(most-len(key), 255))
		wantPut(t, x, key, value, had, api.OK)
		has[key] = value
	case 4, 5:
		wantDelete(t, x, key, had, api.OK)
		delete(has, key)
	case 6:
		wantGet(t, x, key, has[key], had, api.OK)
	case 7:
		p, is := has.next(key)
		wantNext(t, x, key, p, is, api.OK)
	}
}

// TestP9_3LongRunsByChance: with transactions that are committed, cut, or left.
func TestP9_3LongRunsByChance(t *testing.T) {
	chance := rand.New(rand.NewSource(93))
	for _, size := range []int{64, 64, 65, 71, 96, 128, 200, 512, 1100, 4096} {
		r := lay(t, 900, size, (size-3)/3)
		most := mostOf(t, size)
		was := pairs{}
		for range 400 {
			x, has := r.pages.Begin(), maps.Clone(was)
			for range chance.Intn(12) {
				step(t, chance, x, has, most)
				wantCheck(t, x, len(has), api.OK)
			}
			if chance.Intn(10) == 0 {
				wantTree(t, x, has)
			}
			was = end(t, chance, r, x, was, has)
			if t.Failed() {
				t.FailNow()
			}
		}
		wantTree(t, r.pages.Begin(), was)
	}
}

// end commits or not, cut or not, and tells what the tree has then.
func end(t *testing.T, chance *rand.Rand, r *rig, x *pages.Tx, was, has pairs) pairs {
	t.Helper()
	if chance.Intn(4) == 0 {
		return was
	}
	if chance.Intn(3) == 0 {
		keep := make([]bool, 40)
		for k := range keep {
			keep[k] = chance.Intn(2) == 0
		}
		r.disk.Arm(1+chance.Intn(30), keep)
	}
	e := x.Commit()
	r.disk.Arm(0, nil)
	if e == api.OK {
		return has
	}
	if e == api.ErrDown {
		r.open(t)
		now := pairs{}
		x = r.pages.Begin()
		for p, is, _ := btree.Next(x, ""); is; p, is, _ = btree.Next(x, p.Key) {
			now[p.Key] = p.Value
		}
		if maps.Equal(now, has) {
			return has
		}
		if !maps.Equal(now, was) {
			t.Errorf("cut: neither what was nor what is to be: %v", now)
		}
		return was
	}
	if e != api.ErrLog {
		t.Errorf("Commit: %d", e)
	}
	return was
}

// TestP9_3LastPutOrDelete: whatever came ahead of it, and in whatever order.
func TestP9_3LastPutOrDelete(t *testing.T) {
	chance := rand.New(rand.NewSource(94))
	for range 60 {
		want := pairs{}
		keys := numbered(1 + chance.Intn(100))
		for _, key := range keys {
			want[key] = text(chance.Intn(5))
		}
		for range 3 {
			x := begin(t, 64)
			for range chance.Intn(300) { // whatever came ahead
				key := fmt.Sprintf("%04d", chance.Intn(150))
				if chance.Intn(3) == 0 {
					btree.Delete(x, key)
				} else {
					btree.Put(x, key, text(chance.Intn(5)))
				}
			}
			for _, key := range shuffled(numbered(150), chance.Int63()) {
				if value, is := want[key]; is {
					btree.Put(x, key, value)
				} else {
					btree.Delete(x, key)
				}
			}
			wantTree(t, x, want)
			wantLean(t, x)
		}
	}
}

// TestP9_3Many: thousands of keys, in a tree of many levels.
func TestP9_3Many(t *testing.T) {
	for _, size := range []int{64, 512} {
		for at, order := range orders(numbered(5000)) {
			if at == 2 || at == 5 || size == 512 && at < 3 { // it takes long
				continue
			}
			x := lay(t, 5000, size, 1).pages.Begin()
			has := pairs{}
			put(t, x, has, order...)
			wantCheck(t, x, 5000, api.OK)
			seen := 0
			for p, is, e := btree.Next(x, ""); is || e != api.OK; p, is, e = btree.Next(x, p.Key) {
				if p.Key != fmt.Sprintf("%04d", seen) || p.Value != "v" || e != api.OK {
					t.Fatalf("Next: %q, %d", p, e)
				}
				seen++
			}
			if seen != 5000 {
				t.Errorf("Next goes through %d keys", seen)
			}
			for k, key := range shuffled(order, 9) {
				wantDelete(t, x, key, true, api.OK)
				if k%500 == 0 {
					wantCheck(t, x, 4999-k, api.OK)
				}
			}
			if n := len(used(x, 5000)); n != 0 {
				t.Errorf("%d pages are used", n)
			}
		}
	}
}

func TestP9_3WhatIsCommitted(t *testing.T) {
	r := lay(t, 500, 64, 20)
	x := r.pages.Begin()
	has := pairs{}
	put(t, x, has, shuffled(numbered(40), 5)...)
	if e := x.Commit(); e != api.OK {
		t.Fatalf("Commit: %d", e)
	}
	wantTree(t, r.pages.Begin(), has)
	r.open(t)
	wantTree(t, r.pages.Begin(), has)
	x = r.pages.Begin()
	for _, key := range numbered(40) {
		wantDelete(t, x, key, true, api.OK)
		wantPut(t, x, key+"x", "w", false, api.OK)
	}
	wantTree(t, r.pages.Begin(), has) // what was not committed turns nothing
	r.open(t)
	wantTree(t, r.pages.Begin(), has)
}

// TestP9_3TooMuchForTheLog: such a Commit turns nothing, and what comes behind it is as if it had not been.
func TestP9_3TooMuchForTheLog(t *testing.T) {
	r := lay(t, 500, 64, 5)
	has := pairs{}
	for _, key := range shuffled(numbered(60), 6) {
		x := r.pages.Begin()
		put(t, x, has, key)
		if e := x.Commit(); e != api.OK && e != api.ErrLog {
			t.Fatalf("Commit: %d", e)
		} else if e == api.ErrLog {
			delete(has, key)
		}
	}
	x := r.pages.Begin()
	for _, key := range has.keys() {
		wantPut(t, x, key, "w", true, api.OK)
	}
	if e := x.Commit(); e != api.ErrLog {
		t.Errorf("Commit of all = %d; want ErrLog", e)
	}
	wantTree(t, r.pages.Begin(), has)
	r.open(t)
	wantTree(t, r.pages.Begin(), has)
	if len(has) < 20 {
		t.Errorf("but %d keys were committed", len(has))
	}
}

// TestT1CutAtEachDeed: a Commit that is cut leaves the tree as it was, or as it is to be, whole.
func TestT1CutAtEachDeed(t *testing.T) {
	for cut := 1; cut < 60; cut++ {
		for _, kept := range []bool{false, true} {
			r := lay(t, 500, 64, 20)
			x := r.pages.Begin()
			was := pairs{}
			put(t, x, was, numbered(30)...)
			x.Commit()
			x = r.pages.Begin()
			has := maps.Clone(was)
			for k := range 15 {
				key := fmt.Sprintf("%04d", 2*k)
				wantDelete(t, x, key, true, api.OK)
				delete(has, key)
			}
			put(t, x, has, "0007x", "0015x", "0029x")
			r.disk.Arm(cut, slices.Repeat([]bool{kept}, 60))
			e := x.Commit()
			r.open(t)
			x = r.pages.Begin()
			if n, _ := btree.Check(x); e == api.OK || n == len(has) {
				was = has
			}
			wantTree(t, x, was)
			wantLean(t, x)
		}
	}
}

// TestR2ReadingChangesNothing: nor does what is not there, nor what there is already.
func TestR2ReadingChangesNothing(t *testing.T) {
	r := lay(t, 500, 64, 20)
	x := r.pages.Begin()
	has := pairs{}
	put(t, x, has, numbered(40)...)
	x.Commit()
	x = r.pages.Begin()
	for range 3 {
		wantTree(t, x, has)
	}
	wantDelete(t, x, "00105", false, api.OK)
	wantPut(t, x, "0010", "v", true, api.OK)
	was := r.disk.Deeds()
	if e := x.Commit(); e != api.OK || r.disk.Deeds() != was {
		t.Errorf("Commit = %d, of %d deeds", e, r.disk.Deeds()-was)
	}
}

// TestR2WhatIsGivenIsNotKept: the bytes of a text that was put are written over behind it.
func TestR2WhatIsGivenIsNotKept(t *testing.T) {
	r := lay(t, 500, 64, 20)
	x := r.pages.Begin()
	has := pairs{}
	given := []byte("0000long")
	for k := range 30 {
		copy(given, fmt.Sprintf("%04d", k))
		before := string(given)
		wantPut(t, x, unsafe.String(&given[0], 4), unsafe.String(&given[4], 4), false, api.OK)
		if string(given) != before {
			t.Errorf("the texts are written into: %q", given)
		}
		has[string(given[:4])] = "long"
	}
	copy(given, "0011LONG")
	wantTree(t, x, has)
	if e := x.Commit(); e != api.OK {
		t.Fatalf("Commit: %d", e)
	}
	wantTree(t, r.pages.Begin(), has)
}

// TestR2WhatComesOutIsNew: its bytes are written over, which is seen neither in the tree nor in another answer.
func TestR2WhatComesOutIsNew(t *testing.T) {
	x := begin(t, 64)
	has := pairs{}
	for _, key := range numbered(30) {
		has[key] = "long"
		wantPut(t, x, key, "long", false, api.OK)
	}
	for _, key := range numbered(29) {
		one, _, _ := btree.Get(x, key)
		other, _, _ := btree.Get(x, key)
		p, _, _ := btree.Next(x, key)
		q, _, _ := btree.Next(x, key)
		for _, s := range []string{one, p.Key, p.Value} {
			copy(unsafe.Slice(unsafe.StringData(s), len(s)), "XXXX")
		}
		next, _ := has.next(key)
		if other != "long" || q != next {
			t.Errorf("a change of one answer is seen in another: %q, %q", other, q)
		}
	}
	wantTree(t, x, has)
}
