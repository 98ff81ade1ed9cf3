package walk_test

import (
	"bytes"
	"fmt"
	"maps"
	"math"
	"math/rand"
	"slices"
	"strings"
	"testing"
	"unsafe"

	"chandlery/api"
	"chandlery/btree"
	"chandlery/disk"
	"chandlery/node"
	"chandlery/pages"
	"chandlery/wal"
	"chandlery/walk"
)

// blocks are as many as each disk has, unless a test says otherwise.
const blocks = 500

// rig is pages, and what they lie on.
type rig struct {
	disk  *disk.Disk
	log   int
	pages *pages.Pages
}

// lay makes a disk, all 00, and opens it.
func lay(t *testing.T, blocks, size, log int) *rig {
	t.Helper()
	d, e := disk.New(1+log+blocks, size)
	if e != api.OK {
		t.Fatalf("disk.New: %d", e)
	}
	r := &rig{disk: d, log: log}
	r.open(t)
	return r
}

// open opens all anew.
func (r *rig) open(t *testing.T) {
	t.Helper()
	r.disk.On()
	w, e := wal.Open(r.disk, r.log)
	if e != api.OK {
		t.Fatalf("wal.Open: %d", e)
	}
	p, e := pages.Open(w)
	if e != api.OK {
		t.Fatalf("pages.Open: %d", e)
	}
	r.pages = p
}

// pairs are what a tree is to have.
type pairs map[string]string

// pairsOf gives each key a value of its own; of the keys that are too long for that, none.
func pairsOf(size int, keys ...string) pairs {
	most, _ := node.Most(size)
	m := pairs{}
	for k, key := range keys {
		m[key] = fmt.Sprint(k)[:min(len(fmt.Sprint(k)), most-len(key))]
	}
	return m
}

// with are those whose keys begin with a text, as they rise.
func (m pairs) with(prefix string) []api.Pair {
	var l []api.Pair
	for _, key := range slices.Sorted(maps.Keys(m)) {
		if strings.HasPrefix(key, prefix) {
			l = append(l, api.Pair{Key: key, Value: m[key]})
		}
	}
	return l
}

// drop answers what Drop has to.
func (m pairs) drop(prefix string) int {
	l := m.with(prefix)
	for _, p := range l {
		delete(m, p.Key)
	}
	return len(l)
}

// move answers what Move has to, of pages of so many bytes.
func (m pairs) move(from, to string, size int) (int, api.Errno) {
	if strings.HasPrefix(from, to) || strings.HasPrefix(to, from) {
		return 0, api.ErrArg
	}
	most, _ := node.Most(size)
	l := m.with(from)
	for _, p := range l {
		key := len(to) + len(p.Key) - len(from)
		if key == 0 || key > 255 || key+len(p.Value) > most {
			return 0, api.ErrArg
		}
	}
	if len(m.with(to)) > 0 {
		return 0, api.ErrThere
	}
	for _, p := range l {
		delete(m, p.Key)
		m[to+p.Key[len(from):]] = p.Value
	}
	return len(l), api.OK
}

// put puts pairs, by a chance of one's choice.
func put(t *testing.T, x *pages.Tx, has pairs, seed int64) {
	t.Helper()
	l := has.with("")
	rand.New(rand.NewSource(seed)).Shuffle(len(l), func(i, j int) { l[i], l[j] = l[j], l[i] })
	for _, p := range l {
		if _, e := btree.Put(x, p.Key, p.Value); e != api.OK {
			t.Fatalf("Put(%s, %q): %d", told(p.Key), p.Value, e)
		}
	}
}

// begin is a transaction on a new disk, with these pairs.
func begin(t *testing.T, size int, has pairs) *pages.Tx {
	t.Helper()
	x := lay(t, blocks, size, 1).pages.Begin()
	put(t, x, has, 1)
	return x
}

// told is short enough to be read.
func told(s string) string {
	if len(s) > 20 {
		return fmt.Sprintf("%q.. of %d bytes", s[:20], len(s))
	}
	return fmt.Sprintf("%q", s)
}

func wantAll(t *testing.T, x *pages.Tx, prefix string, most int, want []api.Pair, e api.Errno) {
	t.Helper()
	if l, f := walk.All(x, prefix, most); !slices.Equal(l, want) || f != e {
		t.Errorf("All(%s, %d) = %.60q, %d; want %.60q, %d", told(prefix), most, l, f, want, e)
	}
}

func wantCount(t *testing.T, x *pages.Tx, prefix string, want int, e api.Errno) {
	t.Helper()
	if n, f := walk.Count(x, prefix); n != want || f != e {
		t.Errorf("Count(%s) = %d, %d; want %d, %d", told(prefix), n, f, want, e)
	}
}

func wantDrop(t *testing.T, x *pages.Tx, prefix string, want int, e api.Errno) {
	t.Helper()
	if n, f := walk.Drop(x, prefix); n != want || f != e {
		t.Errorf("Drop(%s) = %d, %d; want %d, %d", told(prefix), n, f, want, e)
	}
}

func wantMove(t *testing.T, x *pages.Tx, from, to string, want int, e api.Errno) {
	t.Helper()
	if n, f := walk.Move(x, from, to); n != want || f != e {
		t.Errorf("Move(%s, %s) = %d, %d; want %d, %d", told(from), told(to), n, f, want, e)
	}
}

// wantEach: each call answers this error, and nothing beside it.
func wantEach(t *testing.T, x *pages.Tx, e api.Errno) {
	t.Helper()
	for _, prefix := range []string{"", "a", "k", strings.Repeat("k", 300)} {
		for _, most := range []int{1000, 0, -1} {
			wantAll(t, x, prefix, most, nil, e)
		}
		wantCount(t, x, prefix, 0, e)
		wantDrop(t, x, prefix, 0, e)
	}
	wantMove(t, x, "k", "m", 0, e)
	wantMove(t, x, "a", "k", 0, e)
}

// wantTold: All and Count tell of the keys with a prefix what the pairs say, whatever the most.
func wantTold(t *testing.T, x *pages.Tx, has pairs, prefix string) {
	t.Helper()
	want := has.with(prefix)
	n := len(want)
	wantCount(t, x, prefix, n, api.OK)
	for _, most := range []int{n, n + 1, math.MaxInt} {
		wantAll(t, x, prefix, most, want, api.OK)
	}
	for _, most := range []int{n - 1, 1, 0, -1, math.MinInt} {
		if n > max(most, 0) {
			wantAll(t, x, prefix, most, nil, api.ErrLong)
		} else {
			wantAll(t, x, prefix, most, want, api.OK)
		}
	}
}

// wantTree: there are just these pairs, in pages of a tree.
func wantTree(t *testing.T, x *pages.Tx, has pairs) {
	t.Helper()
	if n, e := btree.Check(x); n != len(has) || e != api.OK {
		t.Errorf("Check = %d, %d; want %d", n, e, len(has))
	}
	key := ""
	for _, want := range has.with("") {
		p, is, e := btree.Next(x, key)
		if p != want || !is || e != api.OK {
			t.Errorf("Next(%s) = %.40q, %v, %d; want %.40q", told(key), p, is, e, want)
			break
		}
		key = p.Key
	}
	if root, e := x.Root(); (root == 0) != (len(has) == 0) || e != api.OK {
		t.Errorf("Root = %d, %d of a tree with %d keys", root, e, len(has))
	}
	if t.Failed() {
		t.FailNow()
	}
}

// used are how many pages are, and state is all that can be seen of a transaction.
func used(x *pages.Tx) (count int) {
	for page := range blocks {
		if _, e := x.Read(page); e == api.OK {
			count++
		}
	}
	return count
}

func state(x *pages.Tx) string {
	root, e := x.Root()
	s := fmt.Sprintf("%d, %d:", root, e)
	for page := range blocks {
		if b, e := x.Read(page); e == api.OK {
			s += fmt.Sprintf(" %d %x", page, b)
		}
	}
	return s
}

// wantStill: what is done changes nothing.
func wantStill(t *testing.T, x *pages.Tx, do func()) {
	t.Helper()
	was := state(x)
	do()
	if now := state(x); now != was {
		t.Errorf("%s\nis changed to\n%s", was, now)
	}
}

// numbered are so many keys, that rise, behind a text.
func numbered(prefix string, count int) []string {
	var l []string
	for k := range count {
		l = append(l, fmt.Sprintf("%s%03d", prefix, k))
	}
	return l
}

// around are keys that begin with "b", with "bb", just below them, and just above.
func around() []string {
	return []string{
		"\x00", "\x00\x00", "\x00\xff", "a", "aa", "a\xff", "a\xff\xff\xff\xff\xff\xff\xff",
		"b", "b\x00", "b\x00\x00", "ba", "ba\xff", "bb", "bb\x00", "bba", "bbb", "bb\xff", "bb\xff\xff", "bc", "b\xff", "b\xff\xff",
		"c", "c\x00", "ca", "\xfe\xff", "\xff", "\xff\x00", "\xff\xfe", "\xff\xff", "\xff\xff\xff\xff\xff\xff\xff\xff",
	}
}

// prefixes are these keys, and what is a byte shorter, longer, below and above.
func prefixes(keys []string) []string {
	l := []string{"", "\x00", "\xff", strings.Repeat("b", 255), strings.Repeat("b", 256), strings.Repeat("\x00", 9), strings.Repeat("\xff", 9), strings.Repeat("z", 70000)}
	for _, key := range keys {
		last := key[len(key)-1]
		l = append(l, key, key[:len(key)-1], key+"\x00", key+"\xff", key+"a", key[:len(key)-1]+string([]byte{last - 1}), key[:len(key)-1]+string([]byte{last + 1}))
	}
	slices.Sort(l)
	return slices.Compact(l)
}

// trees are sets of keys: none, one, few, as many as need several leaves, and levels.
func trees() map[string][]string {
	return map[string][]string{
		"none":    nil,
		"one":     {"b"},
		"long":    {"bbbbbbbb"},
		"around":  around(),
		"leaves":  slices.Concat([]string{"a", "b", "bb", "c"}, numbered("b", 20), numbered("bb", 30)),
		"levels":  slices.Concat(numbered("a", 100), numbered("bb", 150), numbered("bc", 100), numbered("b", 100), []string{"bb", "b"}),
		"one all": numbered("b", 60),
	}
}

func TestP10_1Examples(t *testing.T) {
	has := pairs{"a1": "x", "a2": "y", "b": "z"}
	x := begin(t, 64, has)
	wantAll(t, x, "a", 9, []api.Pair{{Key: "a1", Value: "x"}, {Key: "a2", Value: "y"}}, api.OK)
	wantAll(t, x, "a", 1, nil, api.ErrLong)
	wantCount(t, x, "", 3, api.OK)
}

// TestP10_1AllAndCount: of trees of several kinds, with a prefix that is a key, or none's, below all, above all, or longer than each.
func TestP10_1AllAndCount(t *testing.T) {
	for name, keys := range trees() {
		for _, size := range []int{64, 100, 4096} {
			has := pairsOf(size, keys...)
			x := begin(t, size, has)
			l := prefixes(append(slices.Clone(keys[:min(len(keys), 40)]), "b", "bb"))
			for _, prefix := range l {
				wantTold(t, x, has, prefix)
				if t.Failed() {
					t.Fatalf("the tree %q, pages of %d bytes", name, size)
				}
			}
			wantTree(t, x, has)
		}
	}
}

// TestP10_1EachByte: prefixes of one byte and two, and keys of each byte.
func TestP10_1EachByte(t *testing.T) {
	has := pairs{}
	for b := range 256 {
		one := string([]byte{byte(b)})
		has[one], has[one+one], has[one+"\x00"], has[one+"\xff"] = "1", "2", "3", "4"
	}
	x := begin(t, 128, has)
	for b := range 256 {
		one := string([]byte{byte(b)})
		want := 4
		if b == 0 || b == 255 {
			want = 3
		}
		wantCount(t, x, one, want, api.OK)
		wantTold(t, x, has, one)
		wantTold(t, x, has, one+one)
		wantTold(t, x, has, one+"\x00")
		wantTold(t, x, has, one+"\xff")
		wantCount(t, x, one+one+one, 0, api.OK)
	}
}

// TestP10_1LongestKeys: prefixes of 254 bytes to 256, of keys of 255.
func TestP10_1LongestKeys(t *testing.T) {
	has := pairs{}
	for b := range 40 {
		for _, c := range []string{"\x00", "k", "\xff"} {
			has[strings.Repeat(c, 254)+string([]byte{byte(6 * b)})] = strings.Repeat("v", 255)
		}
	}
	x := begin(t, 4096, has)
	for _, c := range []string{"\x00", "k", "\xff"} {
		for _, size := range []int{1, 253, 254, 255, 256, 1000} {
			wantTold(t, x, has, strings.Repeat(c, size))
		}
		wantCount(t, x, strings.Repeat(c, 254), 40, api.OK)
	}
	wantTold(t, x, has, "")
}

// TestP10_1WithoutKeys: of a tree that has none yet, and one that has none any more.
func TestP10_1WithoutKeys(t *testing.T) {
	x := begin(t, 64, nil)
	for range 2 {
		wantStill(t, x, func() {
			for _, prefix := range prefixes(around()) {
				wantTold(t, x, nil, prefix)
				wantDrop(t, x, prefix, 0, api.OK)
			}
			wantMove(t, x, "a", "b", 0, api.OK)
		})
		put(t, x, pairsOf(64, around()...), 3)
		wantDrop(t, x, "", len(around()), api.OK)
	}
}

// TestP10_1Nil: a transaction that is nil, whatever the texts and the most.
func TestP10_1Nil(t *testing.T) {
	wantEach(t, nil, api.ErrNil)
	wantAll(t, nil, strings.Repeat("k", 70000), math.MinInt, nil, api.ErrNil)
	wantMove(t, nil, "a", strings.Repeat("k", 70000), 0, api.ErrNil)
	var none *pages.Pages
	wantEach(t, none.Begin(), api.ErrNil)
}

// TestP10_1Done: a transaction that is done, by a commit or by another one.
func TestP10_1Done(t *testing.T) {
	r := lay(t, blocks, 64, 20)
	x := r.pages.Begin()
	has := pairsOf(64, numbered("k", 20)...)
	put(t, x, has, 1)
	if e := x.Commit(); e != api.OK {
		t.Fatalf("Commit: %d", e)
	}
	wantEach(t, x, api.ErrArg)
	x = r.pages.Begin()
	y := r.pages.Begin()
	wantEach(t, x, api.ErrArg)
	wantTree(t, y, has)
}

// TestP10_1PageSizes: those that a tree has not, with and without a root's page.
func TestP10_1PageSizes(t *testing.T) {
	for _, size := range []int{16, 17, 32, 60, 63} {
		x := lay(t, blocks, size, 1).pages.Begin()
		for range 2 {
			wantStill(t, x, func() { wantEach(t, x, api.ErrArg) })
			page, _ := x.Take()
			x.SetRoot(page)
		}
	}
	wantEach(t, begin(t, 63, nil), api.ErrArg)
	wantCount(t, begin(t, 64, nil), "", 0, api.OK)
	wantCount(t, begin(t, 4096, nil), "", 0, api.OK)
}

// TestP10_1Down: the power is off; behind that the transaction is done.
func TestP10_1Down(t *testing.T) {
	r := lay(t, blocks, 64, 20)
	has := pairsOf(64, numbered("k", 30)...)
	x := r.pages.Begin()
	put(t, x, has, 1)
	if e := x.Commit(); e != api.OK {
		t.Fatalf("Commit: %d", e)
	}
	calls := map[string]func(x *pages.Tx){
		"All":     func(x *pages.Tx) { wantAll(t, x, "k", 100, nil, api.ErrDown) },
		"Count":   func(x *pages.Tx) { wantCount(t, x, "k", 0, api.ErrDown) },
		"Drop":    func(x *pages.Tx) { wantDrop(t, x, "k", 0, api.ErrDown) },
		"Move":    func(x *pages.Tx) { wantMove(t, x, "k", "m", 0, api.ErrDown) },
		"Move to": func(x *pages.Tx) { wantMove(t, x, "m", "k", 0, api.ErrDown) },
	}
	for name, call := range calls {
		for _, first := range []string{"", "k000", "k029"} { // a page that is in the transaction already is read there
			x := r.pages.Begin()
			if first != "" {
				btree.Put(x, first, "w")
			}
			r.disk.Crash(nil)
			call(x)
			wantEach(t, x, api.ErrArg)
			r.open(t)
			wantEach(t, x, api.ErrArg)
			if t.Failed() {
				t.Fatalf("%s behind %q", name, first)
			}
		}
	}
	wantTree(t, r.pages.Begin(), has)
}

func TestP10_2Examples(t *testing.T) {
	has := pairs{"a1": "x", "a2": "y", "b": "z"}
	x := begin(t, 64, has)
	wantMove(t, x, "a", "c", 2, api.OK)
	wantAll(t, x, "c", 9, []api.Pair{{Key: "c1", Value: "x"}, {Key: "c2", Value: "y"}}, api.OK)
	wantDrop(t, x, "c", 2, api.OK)
	wantTree(t, x, pairs{"b": "z"})
}

// TestP10_2Drop: each of these prefixes of each of these trees; what is left has no page more than its keys need.
func TestP10_2Drop(t *testing.T) {
	for name, keys := range trees() {
		for _, size := range []int{64, 512} {
			all := pairsOf(size, keys...)
			for _, prefix := range prefixes(append(slices.Clone(keys[:min(len(keys), 6)]), "b", "bb", "bb0", "c")) {
				has := maps.Clone(all)
				x := begin(t, size, has)
				wantDrop(t, x, prefix, has.drop(prefix), api.OK)
				wantTree(t, x, has)
				wantDrop(t, x, prefix, 0, api.OK)
				wantTold(t, x, has, prefix)
				if len(has) == 0 && used(x) != 0 {
					t.Errorf("%d pages are used without a key", used(x))
				}
				if t.Failed() {
					t.Fatalf("the tree %q, pages of %d bytes, prefix %s", name, size, told(prefix))
				}
			}
		}
	}
}

// TestP10_2Move: each of these trees, from and to prefixes of many kinds; an error turns nothing.
func TestP10_2Move(t *testing.T) {
	froms := []string{"", "a", "b", "b0", "b00", "bb", "bb\x00", "bb\xff", "bbbbbbbb", "c", "x", "\x00", "\xff", "\xff\xff"}
	tos := []string{"", "a", "aa", "b", "b\x01", "ba", "bb", "bbb", "c", "d", "dd", "ddd", "d\xff", "ddddddd", "dddddddd", "ddddddddd", "\x00", "\x00\x01", "\xfe", "\xff\x01"}
	for name, keys := range trees() {
		all := pairsOf(64, keys...)
		if name == "levels" {
			all = pairsOf(64, slices.Concat(numbered("a", 20), numbered("bb", 40), numbered("b", 20), numbered("c", 20))...)
		}
		for _, from := range froms {
			for _, to := range tos {
				has := maps.Clone(all)
				x := begin(t, 64, has)
				was := state(x)
				n, e := has.move(from, to, 64)
				wantMove(t, x, from, to, n, e)
				if (n == 0 || e != api.OK) && state(x) != was {
					t.Errorf("an answer of %d, %d turns the pages", n, e)
				}
				wantTree(t, x, has)
				wantTold(t, x, has, from)
				wantTold(t, x, has, to)
				if t.Failed() {
					t.Fatalf("the tree %q, from %s to %s", name, told(from), told(to))
				}
			}
		}
	}
}

// TestP10_2MoveToTheBeginning: one of both texts is the beginning of the other one, and nothing else is asked then.
func TestP10_2MoveToTheBeginning(t *testing.T) {
	long := strings.Repeat("k", 70000)
	both := [][2]string{{"", ""}, {"", "a"}, {"", "k"}, {"k", "k"}, {"k", "k0"}, {"k", "k\x00"}, {"k000", "k"}, {"x", "x"}, {"x", "xx"}, {"k", long}, {long, long}, {"\xff", "\xff\xff"}, {"\x00", "\x00\x00"}}
	for _, has := range []pairs{nil, pairsOf(64, "k"), pairsOf(64, numbered("k", 30)...)} {
		x := begin(t, 64, has)
		wantStill(t, x, func() {
			for _, b := range both {
				wantMove(t, x, b[0], b[1], 0, api.ErrArg)
				wantMove(t, x, b[1], b[0], 0, api.ErrArg)
			}
		})
		wantTree(t, x, has)
	}
	for _, b := range both { // the promise names this error, and layer 9's it does not
		wantMove(t, nil, b[0], b[1], 0, api.ErrArg)
	}
}

// TestP10_2TooLong: a key, or a key with its value, that becomes just as long as may be, and a byte longer; it is the one of several that does.
func TestP10_2TooLong(t *testing.T) {
	check := func(size int, key, value string, room int) {
		t.Helper()
		for _, others := range [][]string{nil, {"k", "ky"}, numbered("k", 40)} {
			has := pairs{"a": "1", "n": "2"}
			for _, other := range others {
				has[other] = ""
			}
			has[key] = value
			x := begin(t, size, has)
			wantStill(t, x, func() {
				wantMove(t, x, "k", strings.Repeat("m", 1+room+1), 0, api.ErrArg)
				wantMove(t, x, "k", "x"+strings.Repeat("m", 70000), 0, api.ErrArg)
				wantMove(t, x, "k", "n"+strings.Repeat("m", room+1), 0, api.ErrArg)
				wantMove(t, x, "k", "n", 0, api.ErrThere)
			})
			to := strings.Repeat("m", 1+room)
			n, e := has.move("k", to, size)
			wantMove(t, x, "k", to, n, e)
			if e != api.OK || n == 0 {
				t.Errorf("%d, %d", n, e)
			}
			wantTree(t, x, has)
		}
	}
	for room := range 4 {
		check(64, "k"+strings.Repeat("z", 7-room), "", room)
		check(64, "k"+strings.Repeat("z", 3-min(room, 3)), strings.Repeat("v", 4+min(room, 3)-room), room)
		check(4096, "k"+strings.Repeat("z", 254-room), strings.Repeat("v", 255), room)
		check(4096, "k"+strings.Repeat("z", 254-room), "", room)
		check(1024, "k"+strings.Repeat("z", 100-room), strings.Repeat("v", 147), room)
	}
}

// TestP10_2There: a key that begins with what is moved to, or is it; whether any is to be moved or not. That a key may not be is said ahead of that.
func TestP10_2There(t *testing.T) {
	for _, count := range []int{0, 1, 30} {
		for _, there := range []string{"m", "m\x00", "m0", "m\xff", "mm", "mmmmmmmm"} {
			has := pairsOf(64, append(numbered("k", count), there, "l", "l\xff", "n")...)
			x := begin(t, 64, has)
			wantStill(t, x, func() {
				wantMove(t, x, "k", "m", 0, api.ErrThere)
				wantMove(t, x, "z", "m", 0, api.ErrThere)
				if count > 0 {
					wantMove(t, x, "k0", "mmmmmmm", 0, api.ErrArg)
					wantMove(t, x, "m", "k", 0, api.ErrThere)
				}
			})
			wantTree(t, x, has)
		}
		for _, beside := range []string{"l", "l\xff\xff", "ll", "mz", "mb", "n", "m"} {
			has := pairsOf(64, append(numbered("k", count), beside)...)
			x := begin(t, 64, has)
			has.move("k", "ma", 64)
			wantMove(t, x, "k", "ma", count, api.OK)
			wantTree(t, x, has)
			wantTold(t, x, has, "ma")
			wantTold(t, x, has, beside)
		}
	}
}

// TestP10_2MoveNone: no key begins with from, and none with to.
func TestP10_2MoveNone(t *testing.T) {
	for _, has := range []pairs{nil, pairsOf(64, "k"), pairsOf(64, numbered("k", 30)...)} {
		x := begin(t, 64, has)
		wantStill(t, x, func() {
			wantMove(t, x, "a", "m", 0, api.OK)
			wantMove(t, x, "z", "m", 0, api.OK)
			wantMove(t, x, "k0000", "m", 0, api.OK)
			wantMove(t, x, "j\xff", strings.Repeat("m", 70000), 0, api.OK)
			wantMove(t, x, strings.Repeat("k", 70000), "m", 0, api.OK)
		})
		wantTree(t, x, has)
	}
}

// takeAll leaves no page that is not used.
func takeAll(t *testing.T, x *pages.Tx) (taken []int) {
	t.Helper()
	for {
		page, e := x.Take()
		if e == api.ErrFull {
			return taken
		}
		if e != api.OK {
			t.Fatalf("Take: %d", e)
		}
		taken = append(taken, page)
	}
}

// TestP10_2AllPagesUsed: what needs no page more is done; what does is answered by ErrFull, and not committed by itself.
func TestP10_2AllPagesUsed(t *testing.T) {
	r := lay(t, blocks, 64, 20)
	has := pairsOf(64, append(numbered("k", 40), "a", "z")...)
	x := r.pages.Begin()
	put(t, x, has, 1)
	if e := x.Commit(); e != api.OK {
		t.Fatalf("Commit: %d", e)
	}
	x = r.pages.Begin()
	takeAll(t, x)
	wantMove(t, x, "k", "mmm", 0, api.ErrFull)
	x = r.pages.Begin()
	wantTree(t, x, has)
	takeAll(t, x)
	wantTold(t, x, has, "k")
	now := maps.Clone(has)
	wantMove(t, x, "a", "b", 1, api.OK)
	wantMove(t, x, "k00", "m", 10, api.OK)
	now.move("a", "b", 64)
	now.move("k00", "m", 64)
	wantTree(t, x, now)
	wantDrop(t, x, "k", now.drop("k"), api.OK)
	wantTree(t, x, now)
	wantDrop(t, x, "", now.drop(""), api.OK)
	wantTree(t, x, now)
	wantTree(t, r.pages.Begin(), has)
}

// TestP10_2OneLeafAndAllPagesUsed: all keys of a leaf that has no room for one more are moved.
func TestP10_2OneLeafAndAllPagesUsed(t *testing.T) {
	has := pairsOf(64, numbered("k", 8)...)
	x := begin(t, 64, has)
	if used(x) != 1 {
		t.Fatalf("%d pages are used", used(x))
	}
	takeAll(t, x)
	has.move("k", "m", 64)
	wantMove(t, x, "k", "m", 8, api.OK)
	wantTree(t, x, has)
}

// garble writes into a page what is no node.
func garble(t *testing.T, x *pages.Tx, page int) {
	t.Helper()
	if e := x.Write(page, bytes.Repeat([]byte{7}, x.Bytes())); e != api.OK {
		t.Fatalf("Write: %d", e)
	}
}

// leaves are a tree's, as its keys rise.
func leaves(t *testing.T, x *pages.Tx) (l []int) {
	t.Helper()
	root, _ := x.Root()
	var look func(page int)
	look = func(page int) {
		b, _ := x.Read(page)
		n, e := node.Parse(b)
		if e != api.OK {
			t.Fatalf("page %d: %d", page, e)
		}
		if n.Leaf {
			l = append(l, page)
		}
		for _, child := range n.Children {
			look(child)
		}
	}
	look(root)
	return l
}

// TestP10_2RootThatIsNoNode: each call answers ErrForm, and turns nothing.
func TestP10_2RootThatIsNoNode(t *testing.T) {
	for _, count := range []int{1, 30} {
		x := begin(t, 64, pairsOf(64, numbered("k", count)...))
		root, _ := x.Root()
		garble(t, x, root)
		wantStill(t, x, func() { wantEach(t, x, api.ErrForm) })
	}
	x := begin(t, 64, nil)
	page, _ := x.Take()
	x.SetRoot(page) // all 00
	wantStill(t, x, func() { wantEach(t, x, api.ErrForm) })
}

// TestP10_2LeafThatIsNoNode: wherever it stands; what reads it answers ErrForm, and what changes several pairs does, though it needs not read it: so none of these is changed without the others.
func TestP10_2LeafThatIsNoNode(t *testing.T) {
	has := pairsOf(64, slices.Concat(numbered("k", 30), numbered("m", 30))...)
	for place := range leaves(t, begin(t, 64, has)) {
		x := begin(t, 64, has)
		page := leaves(t, x)[place]
		b, _ := x.Read(page)
		n, _ := node.Parse(b)
		garble(t, x, page)
		wantStill(t, x, func() {
			wantAll(t, x, "", math.MaxInt, nil, api.ErrForm)
			wantCount(t, x, "", 0, api.ErrForm)
			for _, prefix := range []string{"", "k", "m", "k0", "k00", "k01", "m02"} {
				wantDrop(t, x, prefix, 0, api.ErrForm)
			}
			for _, p := range n.Pairs {
				wantCount(t, x, p.Key, 0, api.ErrForm)
				wantAll(t, x, p.Key, 0, nil, api.ErrForm)
				wantDrop(t, x, p.Key, 0, api.ErrForm)
				wantMove(t, x, p.Key, "z", 0, api.ErrForm)
				wantMove(t, x, "z", p.Key, 0, api.ErrForm)
			}
			for _, from := range []string{"k", "m", "k0", "k00", "k01", "m02"} {
				wantMove(t, x, from, "z", 0, api.ErrForm)
				wantMove(t, x, from, "z00", 0, api.ErrForm)
			}
			if place > 2 { // what the promise names comes ahead of layer 9's
				wantAll(t, x, "", 3, nil, api.ErrLong)
				wantMove(t, x, "k", "zzzzzz", 0, api.ErrArg)
				wantMove(t, x, n.Pairs[0].Key, "k000", 0, api.ErrThere)
			}
		})
		if t.Failed() {
			t.Fatalf("the leaf %d", place)
		}
	}
}

// TestP10_2OnePairBesideNoNode: a single pair is changed, or it isn't.
func TestP10_2OnePairBesideNoNode(t *testing.T) {
	has := pairsOf(64, numbered("k", 60)...)
	dropped := 0
	for place := range leaves(t, begin(t, 64, has)) {
		for key := range has {
			x := begin(t, 64, has)
			garble(t, x, leaves(t, x)[place])
			was := state(x)
			n, e := walk.Drop(x, key)
			if n == 1 && e == api.OK {
				dropped++
				wantCount(t, x, key, 0, api.OK)
			} else if n != 0 || e != api.ErrForm || state(x) != was {
				t.Fatalf("Drop(%q) = %d, %d, with no node at the leaf %d", key, n, e, place)
			}
		}
	}
	if dropped == 0 {
		t.Error("nothing was dropped")
	}
}

// TestP10_2PageTwice: a page that is reached twice.
func TestP10_2PageTwice(t *testing.T) {
	x := begin(t, 64, nil)
	var pages []int
	for range 3 {
		page, _ := x.Take()
		pages = append(pages, page)
	}
	x.SetRoot(pages[0])
	lay := func(page int, n api.Node) {
		b, e := node.Bytes(n, 64)
		if e != api.OK {
			t.Fatalf("Bytes: %d", e)
		}
		x.Write(page, b)
	}
	lay(pages[0], api.Node{Keys: []string{"k5", "k7"}, Children: []int{pages[1], pages[2], pages[1]}})
	lay(pages[1], api.Node{Leaf: true, Pairs: []api.Pair{{Key: "k1"}, {Key: "k2"}}})
	lay(pages[2], api.Node{Leaf: true, Pairs: []api.Pair{{Key: "k5"}, {Key: "k6"}}})
	wantStill(t, x, func() {
		wantDrop(t, x, "k", 0, api.ErrForm)
		wantMove(t, x, "k1", "m", 0, api.ErrForm)
	})
	lay(pages[0], api.Node{Keys: []string{"k5"}, Children: []int{pages[1], pages[0]}})
	wantStill(t, x, func() {
		wantAll(t, x, "k", 9, nil, api.ErrForm)
		wantCount(t, x, "k", 0, api.ErrForm)
		wantDrop(t, x, "k", 0, api.ErrForm)
		wantMove(t, x, "k", "m", 0, api.ErrForm)
	})
}

// TestP10_3ThereAndBack: to texts that are shorter, as long and longer, below and above.
func TestP10_3ThereAndBack(t *testing.T) {
	for name, keys := range trees() {
		for _, size := range []int{128, 400} {
			has := pairsOf(size, keys...)
			x := begin(t, size, has)
			for _, from := range []string{"b", "bb", "bb0", "c", "\x00", "\xff\xff", "x"} {
				for _, to := range []string{"A", "AA", "AAAA", "z", "zz", "zzzz", "b\x01", "bb\x01", "\x01", "\xff\x01"} {
					if strings.HasPrefix(from, to) || strings.HasPrefix(to, from) {
						continue
					}
					count := len(has.with(from))
					wantMove(t, x, from, to, count, api.OK)
					wantCount(t, x, from, 0, api.OK)
					wantCount(t, x, to, count, api.OK)
					wantMove(t, x, to, from, count, api.OK)
					wantTree(t, x, has)
				}
			}
			if t.Failed() {
				t.Fatalf("the tree %q", name)
			}
		}
	}
}

// TestP10_3ByChance: long runs of all calls, held against the pairs; what does not begin with a prefix stays.
func TestP10_3ByChance(t *testing.T) {
	for seed := range int64(20) {
		chance := rand.New(rand.NewSource(seed))
		size := []int{64, 64, 80, 128, 512}[chance.Intn(5)]
		x := begin(t, size, nil)
		has := pairs{}
		text := func(most int) string {
			b := make([]byte, chance.Intn(most+1))
			for k := range b {
				b[k] = "\x00ab\xff"[chance.Intn(4)]
			}
			return string(b)
		}
		for range 150 {
			switch chance.Intn(8) {
			case 0:
				prefix := text(4)
				wantDrop(t, x, prefix, has.drop(prefix), api.OK)
			case 1, 2, 3:
				from, to := text(3), text(4)
				n, e := has.move(from, to, size)
				wantMove(t, x, from, to, n, e)
			default:
				for range 6 {
					key, value := text(6), text(2)
					if _, e := btree.Put(x, key, value); e == api.OK {
						has[key] = value
					}
				}
			}
			wantTold(t, x, has, text(4))
			wantTree(t, x, has)
		}
	}
}

// TestP10_3WhatIsCommitted: what was dropped and moved is so when all is opened anew; what was not committed, is not.
func TestP10_3WhatIsCommitted(t *testing.T) {
	r := lay(t, blocks, 64, 20)
	has := pairsOf(64, slices.Concat(numbered("k", 20), numbered("m", 20))...)
	x := r.pages.Begin()
	put(t, x, has, 1)
	for round := range 2 {
		if e := x.Commit(); e != api.OK {
			t.Fatalf("Commit: %d", e)
		}
		r.open(t)
		x = r.pages.Begin()
		wantTree(t, x, has)
		walk.Drop(x, "m")
		walk.Move(x, "k", "z")
		x = r.pages.Begin()
		wantTree(t, x, has)
		prefix := fmt.Sprintf("m0%d", round)
		to := fmt.Sprintf("z%d", round)
		wantDrop(t, x, prefix, has.drop(prefix), api.OK)
		n, _ := has.move("k00", to, 64)
		wantMove(t, x, "k00", to, n, api.OK)
	}
}

// TestT1CutAtEachDeed: keys are dropped and moved whole, or not at all.
func TestT1CutAtEachDeed(t *testing.T) {
	for cut := 1; cut < 60; cut++ {
		for _, kept := range []bool{false, true} {
			r := lay(t, blocks, 64, 20)
			was := pairsOf(64, slices.Concat(numbered("k", 15), numbered("m", 15))...)
			x := r.pages.Begin()
			put(t, x, was, 1)
			if e := x.Commit(); e != api.OK {
				t.Fatalf("Commit: %d", e)
			}
			x = r.pages.Begin()
			has := maps.Clone(was)
			wantDrop(t, x, "m00", has.drop("m00"), api.OK)
			n, _ := has.move("k", "n", 64)
			wantMove(t, x, "k", "n", n, api.OK)
			r.disk.Arm(cut, slices.Repeat([]bool{kept}, 60))
			e := x.Commit()
			r.open(t)
			x = r.pages.Begin()
			if n, _ := walk.Count(x, "n"); e == api.OK || n > 0 {
				was = has
			}
			wantTree(t, x, was)
		}
	}
}

// TestR2ReadingChangesNothing: nor does a call that drops or moves nothing.
func TestR2ReadingChangesNothing(t *testing.T) {
	r := lay(t, blocks, 64, 20)
	has := pairsOf(64, numbered("k", 40)...)
	x := r.pages.Begin()
	put(t, x, has, 1)
	x.Commit()
	x = r.pages.Begin()
	for _, prefix := range []string{"", "k", "k00", "k001", "z"} {
		wantTold(t, x, has, prefix)
	}
	wantDrop(t, x, "z", 0, api.OK)
	wantMove(t, x, "y", "z", 0, api.OK)
	wantMove(t, x, "y", "k", 0, api.ErrThere)
	wantMove(t, x, "k", "zzzzzz", 0, api.ErrArg)
	was := r.disk.Deeds()
	if e := x.Commit(); e != api.OK || r.disk.Deeds() != was {
		t.Errorf("Commit = %d, of %d deeds", e, r.disk.Deeds()-was)
	}
}

// TestR2WhatIsGivenIsNotKept: the bytes of the texts that were handed in are written over behind each call.
func TestR2WhatIsGivenIsNotKept(t *testing.T) {
	has := pairsOf(64, append(numbered("k", 30), "k", "a")...)
	x := begin(t, 64, has)
	given := []byte("........")
	handed := func(from, to string) (string, string) {
		copy(given, from)
		copy(given[4:], to)
		return unsafe.String(&given[0], len(from)), unsafe.String(&given[4], len(to))
	}
	over := func() {
		t.Helper()
		copy(given, "XXXXXXXX")
		wantTree(t, x, has)
	}
	from, to := handed("k", "mm")
	l, e := walk.All(x, from, 100)
	copy(given, "XXXXXXXX")
	if !slices.Equal(l, has.with("k")) || e != api.OK {
		t.Errorf("All = %q, %d", l, e)
	}
	from, to = handed("k", "mm")
	n, _ := has.move("k", "mm", 64)
	wantMove(t, x, from, to, n, api.OK)
	if string(given) != "k...mm.." && string(given) != "kXXXmmXX" {
		t.Errorf("the texts are written into: %q", given)
	}
	over()
	from, _ = handed("mm00", "")
	wantDrop(t, x, from, has.drop("mm00"), api.OK)
	over()
}

// TestR2WhatComesOutIsNew: its bytes are written over, which is seen neither in the tree nor in another answer.
func TestR2WhatComesOutIsNew(t *testing.T) {
	has := pairs{}
	for _, key := range append(numbered("kk", 30), "kk", "aa") { // of one byte there is a text for all
		has[key] = "vw"
	}
	x := begin(t, 64, has)
	prefix := string([]byte("kk"))
	one, _ := walk.All(x, prefix, 100)
	other, _ := walk.All(x, prefix, 100)
	if len(one) != 31 {
		t.Fatalf("All = %q", one)
	}
	for _, p := range one {
		for _, s := range []string{p.Key, p.Value} {
			copy(unsafe.Slice(unsafe.StringData(s), len(s)), "XXXX")
		}
	}
	clear(one[:cap(one)])
	if !slices.Equal(other, has.with("kk")) || prefix != "kk" {
		t.Errorf("a change of one answer is seen elsewhere: %q, %q", other, prefix)
	}
	wantTree(t, x, has)
}
