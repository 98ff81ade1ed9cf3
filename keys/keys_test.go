package keys_test

import (
	"encoding/binary"
	"fmt"
	"math"
	"math/rand"
	"slices"
	"strings"
	"testing"
	"unsafe"

	"chandlery/api"
	"chandlery/keys"
)

const last = 16777215 // of the numbers of three bytes

// kinds are all that there are.
func kinds() []int {
	return []int{api.KeyCount, api.KeyInode, api.KeyChunk, api.KeyEntry, api.KeyInfo, api.KeyRef, api.KeyUser, api.KeyProfile, api.KeyGen, api.KeyRoot}
}

// wrongKinds are none, some of which would be one if a byte of them alone counted.
func wrongKinds() []int {
	return []int{0, 11, 12, 16, 255, 256, 257, 262, 266, -1, -2, -10, -255, 1<<32 + 6, math.MaxInt32, math.MinInt32, math.MaxInt, math.MinInt}
}

// fields tells which ones a kind has, in the order of their bytes.
func fields(kind int) string {
	if kind < 1 || kind > 10 {
		return ""
	}
	return []string{"", "N", "NM", "NA", "A", "AB", "AB", "A", "AN", "A"}[kind-1]
}

// fieldFits tells whether a field that the kind has may be.
func fieldFits(k api.Key, field rune) bool {
	switch field {
	case 'N':
		return k.N <= last && (k.N >= 1 || k.N == 0 && k.Kind == 9)
	case 'M':
		return k.M >= 0 && k.M <= 65535
	case 'A':
		return isName(k.A)
	}
	return isName(k.B)
}

func isName(s string) bool {
	for k := range len(s) {
		if s[k] == 0 || s[k] == '/' {
			return false
		}
	}
	return len(s) > 0 && len(s) < 65
}

// fits tells what the chapter's table says of which key may be.
func fits(k api.Key) bool {
	if k.Kind < 1 || k.Kind > 10 {
		return false
	}
	has := fields(k.Kind)
	for _, field := range has {
		if !fieldFits(k, field) {
			return false
		}
	}
	return (k.A == "" || strings.Contains(has, "A")) && (k.B == "" || strings.Contains(has, "B")) && (k.N == 0 || strings.Contains(has, "N")) && (k.M == 0 || strings.Contains(has, "M"))
}

func three(n int) string { return string(binary.BigEndian.AppendUint32(nil, uint32(n))[1:]) }

func two(n int) string { return string(binary.BigEndian.AppendUint16(nil, uint16(n))) }

// laid are the bytes of a key that may be.
func laid(k api.Key) string {
	switch k.Kind {
	case 1:
		return "n"
	case 2:
		return "i" + three(k.N)
	case 3:
		return "c" + three(k.N) + two(k.M)
	case 4:
		return "d" + three(k.N) + k.A
	case 5:
		return "p" + k.A
	case 6:
		return "r" + k.A + "\x00" + k.B
	case 7:
		return "u" + k.A + "\x00" + k.B
	case 8:
		return "f" + k.A
	case 9:
		return "g" + k.A + "\x00" + three(k.N)
	}
	return "t" + k.A
}

// hasFirst tells whether P11.2 lets the kind's Prefix say its first field.
func hasFirst(kind int) bool { return kind == 3 || kind == 4 || kind == 6 || kind == 7 || kind == 9 }

// prefixOf is what P11.2 says, and whether there is one.
func prefixOf(k api.Key) (string, bool) {
	if k.Kind < 1 || k.Kind > 10 || hasFirst(k.Kind) && !fieldFits(k, rune(fields(k.Kind)[0])) {
		return "", false
	}
	letter := "nicdprufgt"[k.Kind-1 : k.Kind]
	switch k.Kind {
	case 3, 4:
		return letter + three(k.N), true
	case 6, 7, 9:
		return letter + k.A + "\x00", true
	}
	return letter, true
}

// readOf seeks the key that may be and has these bytes, among all that they could be cut into.
func readOf(s string) (api.Key, bool) {
	var found api.Key
	is := false
	try := func(k api.Key) {
		if fits(k) && laid(k) == s {
			found, is = k, true
		}
	}
	kind := 1 + strings.Index("nicdprufgt", s[:min(1, len(s))])
	try(api.Key{Kind: kind})
	for from := range len(s) + 1 {
		behind := s[from:]
		try(api.Key{Kind: kind, A: behind})
		try(api.Key{Kind: kind, N: numberOf(behind)})
		if from >= 3 {
			n := numberOf(s[from-3 : from])
			try(api.Key{Kind: kind, N: n, A: behind})
			try(api.Key{Kind: kind, N: n, M: numberOf(behind)})
		}
		if from >= 2 {
			try(api.Key{Kind: kind, A: s[1 : from-1], B: behind})
			try(api.Key{Kind: kind, A: s[1 : from-1], N: numberOf(behind)})
		}
	}
	return found, is
}

// numberOf is what some bytes say, or -1, if they are more than a key has of a number.
func numberOf(s string) int {
	if len(s) > 3 {
		return -1
	}
	n := 0
	for k := range len(s) {
		n = 256*n + int(s[k])
	}
	return n
}

// want holds Check and Bytes of a key against the chapter's words.
func want(t *testing.T, k api.Key) {
	t.Helper()
	s, e := "", api.ErrArg
	if fits(k) {
		s, e = laid(k), api.OK
	}
	wantBytes(t, k, s, e)
}

func wantBytes(t *testing.T, k api.Key, s string, e api.Errno) {
	t.Helper()
	if got := keys.Check(k); got != e {
		t.Errorf("Check(%s) = %d; want %d", told(k), got, e)
	}
	if got, f := keys.Bytes(k); got != s || f != e {
		t.Errorf("Bytes(%s) = %.99q, %d; want %.99q, %d", told(k), got, f, s, e)
	}
}

func wantWrong(t *testing.T, k api.Key) {
	t.Helper()
	wantBytes(t, k, "", api.ErrArg)
}

func wantRead(t *testing.T, s string, k api.Key) {
	t.Helper()
	if got, e := keys.Parse(s); got != k || e != api.OK {
		t.Errorf("Parse(%.99q) = %s, %d; want %s", s, told(got), e, told(k))
	}
}

func wantUnread(t *testing.T, s string) {
	t.Helper()
	if got, e := keys.Parse(s); got != (api.Key{}) || e != api.ErrForm {
		t.Errorf("Parse(%.99q) = %s, %d; want noughts, ErrForm", s, told(got), e)
	}
}

// wantReadOrNot holds Parse against the chapter's words.
func wantReadOrNot(t *testing.T, s string) {
	t.Helper()
	if k, is := readOf(s); is {
		wantRead(t, s, k)
	} else {
		wantUnread(t, s)
	}
}

// wantPrefix holds Prefix against the chapter's words.
func wantPrefix(t *testing.T, k api.Key) {
	t.Helper()
	want, is := prefixOf(k)
	e := api.OK
	if !is {
		e = api.ErrArg
	}
	if got, f := keys.Prefix(k); got != want || f != e {
		t.Errorf("Prefix(%s) = %.99q, %d; want %.99q, %d", told(k), got, f, want, e)
	}
}

// told is short enough to be read.
func told(k api.Key) string {
	return fmt.Sprintf("{kind %d, A %.70q, B %.70q, N %d, M %d}", k.Kind, k.A, k.B, k.N, k.M)
}

// names are some of each kind, among them ones with which others begin, and ones that look like a letter, a number, a path.
func names() []string {
	return []string{
		"a", "aa", "ab", "aab", "a\x01", "a\xff", "b", "ba", "n", "i", "g", "r", "\x01", "\x01\x01", "\x01\x02", "\x01\x02\x03", "\xff", "\xff\xff\xff", " ", ".", "..", "\n", "\\", "0", "é", "\xed\xa0\x80", "\xc3", "\x80",
		strings.Repeat("a", 63), strings.Repeat("a", 64), strings.Repeat("\xff", 64), strings.Repeat("é", 32), strings.Repeat("a", 63) + "b",
	}
}

// wrongNames are none.
func wrongNames() []string {
	l := []string{"", "\x00", "/", "//", "\x00/", "a/b", "/a", "a/", "a\x00b", "\x00a", "a\x00", "a\x00b\x00", "\xff/", "\xff\x00", strings.Repeat("a", 65), strings.Repeat("é", 33), strings.Repeat("\xff", 65), strings.Repeat("a", 66), strings.Repeat("a", 128), strings.Repeat("a", 256), strings.Repeat("a", 257), strings.Repeat("a", 65537)}
	for _, c := range []string{"\x00", "/"} {
		for _, at := range []int{0, 1, 7, 31, 62, 63} {
			s := strings.Repeat("a", 64)
			l = append(l, s[:at]+c+s[at+1:])
		}
	}
	return l
}

// numbers are where a byte's edge is, of what three bytes hold.
func numbers() []int {
	return []int{1, 2, 46, 47, 48, 127, 128, 254, 255, 256, 257, 258, 511, 512, 32767, 32768, 65279, 65280, 65534, 65535, 65536, 65537, 131071, 131072, 8388607, 8388608, 16711679, 16711680, last - 1, last}
}

func wrongNumbers() []int {
	return []int{-1, -2, -255, -256, -65535, -65536, -last, -last - 1, last + 1, last + 2, 1<<24 + 256, 1<<25 - 1, math.MaxInt32, math.MinInt32, 1 << 32, 1<<32 + 1, math.MaxInt, math.MaxInt - 1, math.MinInt, math.MinInt + 1}
}

func chunks() []int {
	return []int{0, 1, 2, 47, 127, 128, 254, 255, 256, 257, 511, 512, 32767, 32768, 65279, 65280, 65534, 65535}
}

func wrongChunks() []int {
	return append(wrongNumbers(), 65536, 65537, 65536+256, 131072, last)
}

// with is a key with a field of another text or number.
func with(k api.Key, field rune, text string, number int) api.Key {
	switch field {
	case 'A':
		k.A = text
	case 'B':
		k.B = text
	case 'N':
		k.N = number
	case 'M':
		k.M = number
	}
	return k
}

// plain is a key of a kind, with fields that may be.
func plain(kind int) api.Key {
	k := api.Key{Kind: kind}
	for _, field := range fields(kind) {
		k = with(k, field, map[rune]string{'A': "ab", 'B': "c"}[field], map[rune]int{'N': 258, 'M': 3}[field])
	}
	return k
}

// samples are keys that may be, of each kind and each edge.
func samples() []api.Key {
	l := []api.Key{{Kind: 1}}
	add := func(k api.Key) { l = append(l, k) }
	for _, n := range numbers() {
		add(api.Key{Kind: 2, N: n})
		for _, m := range chunks() {
			add(api.Key{Kind: 3, N: n, M: m})
		}
		for _, a := range names() {
			add(api.Key{Kind: 4, N: n, A: a})
			add(api.Key{Kind: 9, N: n, A: a})
		}
	}
	for _, a := range names() {
		for _, kind := range []int{5, 8, 9, 10} {
			add(api.Key{Kind: kind, A: a})
		}
		for _, b := range names() {
			add(api.Key{Kind: 6, A: a, B: b})
			add(api.Key{Kind: 7, A: a, B: b})
		}
	}
	return l
}

// few are keys that may be, as many as can be held against one another, or changed byte by byte.
func few() []api.Key {
	l := []api.Key{{Kind: 1}}
	for _, n := range []int{1, 47, 255, 256, 65536, last} {
		l = append(l, api.Key{Kind: 2, N: n}, api.Key{Kind: 3, N: n}, api.Key{Kind: 3, N: n, M: 1}, api.Key{Kind: 3, N: n, M: 256}, api.Key{Kind: 3, N: n, M: 65535})
		for _, a := range []string{"a", "ab", "\x01", "\xff\xff"} {
			l = append(l, api.Key{Kind: 4, N: n, A: a}, api.Key{Kind: 9, N: n, A: a})
		}
	}
	for _, a := range []string{"a", "ab", "abc", "b", "a\x01", "\x01", "\xff", strings.Repeat("a", 64), strings.Repeat("a", 63)} {
		for _, kind := range []int{5, 8, 9, 10} {
			l = append(l, api.Key{Kind: kind, A: a})
		}
		for _, b := range []string{"a", "b", "ab", "\x01", "\xff", strings.Repeat("b", 64)} {
			l = append(l, api.Key{Kind: 6, A: a, B: b}, api.Key{Kind: 7, A: a, B: b})
		}
	}
	return l
}

func TestP11_1Examples(t *testing.T) {
	for _, x := range []struct {
		k api.Key
		s string
	}{
		{api.Key{Kind: api.KeyCount}, "n"},
		{api.Key{Kind: api.KeyInode, N: 1}, "i\x00\x00\x01"},
		{api.Key{Kind: api.KeyInode, N: 66051}, "i\x01\x02\x03"},
		{api.Key{Kind: api.KeyInode, N: last}, "i\xff\xff\xff"},
		{api.Key{Kind: api.KeyChunk, N: 258, M: 1}, "c\x00\x01\x02\x00\x01"},
		{api.Key{Kind: api.KeyChunk, N: 1}, "c\x00\x00\x01\x00\x00"},
		{api.Key{Kind: api.KeyChunk, N: last, M: 65280}, "c\xff\xff\xff\xff\x00"},
		{api.Key{Kind: api.KeyEntry, N: 66051, A: "ab"}, "d\x01\x02\x03ab"},
		{api.Key{Kind: api.KeyEntry, N: 1, A: ".."}, "d\x00\x00\x01.."},
		{api.Key{Kind: api.KeyInfo, A: "x-1.0"}, "px-1.0"},
		{api.Key{Kind: api.KeyRef, A: "a", B: "b"}, "ra\x00b"},
		{api.Key{Kind: api.KeyUser, A: "ab", B: "\xff"}, "uab\x00\xff"},
		{api.Key{Kind: api.KeyProfile, A: "f"}, "ff"},
		{api.Key{Kind: api.KeyGen, A: "a"}, "ga\x00\x00\x00\x00"},
		{api.Key{Kind: api.KeyGen, A: "g", N: 66051}, "gg\x00\x01\x02\x03"},
		{api.Key{Kind: api.KeyGen, A: "g", N: last}, "gg\x00\xff\xff\xff"},
		{api.Key{Kind: api.KeyRoot, A: "t t"}, "tt t"},
	} {
		wantBytes(t, x.k, x.s, api.OK)
		wantRead(t, x.s, x.k)
	}
	wantUnread(t, "q")
	wantUnread(t, "p")
}

// TestP11_1AllThatMayBe: of each kind, with each number and name.
func TestP11_1AllThatMayBe(t *testing.T) {
	for _, k := range samples() {
		if !fits(k) {
			t.Fatalf("%s is no sample", told(k))
		}
		want(t, k)
	}
}

// TestP11_1Kinds: ones that are none, whatever the fields, and each without its fields, and with those of each other one.
func TestP11_1Kinds(t *testing.T) {
	for _, kind := range wrongKinds() {
		wantWrong(t, api.Key{Kind: kind})
		for _, other := range kinds() {
			k := plain(other)
			k.Kind = kind
			wantWrong(t, k)
		}
	}
	for _, kind := range kinds() {
		want(t, api.Key{Kind: kind})
		want(t, plain(kind))
		for _, other := range kinds() {
			k := plain(other)
			k.Kind = kind
			want(t, k)
		}
	}
	wantWrong(t, api.Key{})
}

// TestP11_1FieldsThatAKindHasNot: each of them, for each kind, whatever is in it, and two of them that would be nought together.
func TestP11_1FieldsThatAKindHasNot(t *testing.T) {
	count := 0
	for _, kind := range kinds() {
		wantBytes(t, plain(kind), laid(plain(kind)), api.OK)
		for _, field := range "ABNM" {
			if strings.ContainsRune(fields(kind), field) {
				continue
			}
			count++
			for _, text := range append(append(names(), wrongNames()...), "0") {
				if text != "" && strings.ContainsRune("AB", field) {
					wantWrong(t, with(plain(kind), field, text, 0))
				}
			}
			for _, n := range append(append(numbers(), wrongNumbers()...), 65536) {
				if strings.ContainsRune("NM", field) {
					wantWrong(t, with(plain(kind), field, "", n))
				}
			}
		}
	}
	if count != 4+3+2+2+3+2+2+3+2+3 {
		t.Errorf("%d fields were tried", count)
	}
	wantWrong(t, api.Key{Kind: 1, N: 1, M: -1})
	wantWrong(t, api.Key{Kind: 5, A: "a", N: 1, M: -1})
	wantWrong(t, api.Key{Kind: 8, A: "a", B: "a"})
	wantWrong(t, api.Key{Kind: 1, A: "a", B: "b", N: 1, M: 1})
}

// TestP11_1Numbers: N and M at their edges, and beyond them.
func TestP11_1Numbers(t *testing.T) {
	for _, kind := range []int{2, 3, 4, 9} {
		k := plain(kind)
		for _, n := range numbers() {
			k.N = n
			wantBytes(t, k, laid(k), api.OK)
		}
		for _, n := range wrongNumbers() {
			k.N = n
			wantWrong(t, k)
		}
	}
	for _, kind := range []int{2, 3, 4} {
		k := plain(kind)
		k.N = 0
		wantWrong(t, k)
	}
	wantBytes(t, api.Key{Kind: 9, A: "a", N: 0}, "ga\x00\x00\x00\x00", api.OK)
	wantBytes(t, api.Key{Kind: 9, A: "a", N: last}, "ga\x00\xff\xff\xff", api.OK)
	wantWrong(t, api.Key{Kind: 9, A: "a", N: last + 1})
	wantWrong(t, api.Key{Kind: 9, A: "a", N: -1})
	for _, n := range numbers() {
		for _, m := range chunks() {
			wantBytes(t, api.Key{Kind: 3, N: n, M: m}, "c"+three(n)+two(m), api.OK)
		}
		for _, m := range wrongChunks() {
			wantWrong(t, api.Key{Kind: 3, N: n, M: m})
		}
	}
}

// TestP11_1Names: each name of each kind, with all bytes, at each length.
func TestP11_1Names(t *testing.T) {
	count := 0
	for _, kind := range kinds() {
		for _, field := range fields(kind) {
			if !strings.ContainsRune("AB", field) {
				continue
			}
			count++
			for _, s := range names() {
				k := with(plain(kind), field, s, 0)
				wantBytes(t, k, laid(k), api.OK)
			}
			for _, s := range wrongNames() {
				wantWrong(t, with(plain(kind), field, s, 0))
			}
			for size := range 130 {
				k := with(plain(kind), field, strings.Repeat("z", size), 0)
				want(t, k)
				if e := keys.Check(k); (e == api.OK) != (size >= 1 && size <= 64) {
					t.Errorf("Check(%s) = %d", told(k), e)
				}
			}
			for c := range 256 {
				one := string([]byte{byte(c)})
				for _, s := range []string{one, one + "a", "a" + one, "a" + one + "a", one + one, strings.Repeat("a", 63) + one, one + strings.Repeat("a", 63), strings.Repeat("a", 64) + one} {
					want(t, with(plain(kind), field, s, 0))
				}
			}
		}
	}
	if count != 1+1+2+2+1+1+1 {
		t.Errorf("%d names were tried", count)
	}
}

// TestP11_1ByChance: keys whose fields are each as they may be, or not.
func TestP11_1ByChance(t *testing.T) {
	chance := rand.New(rand.NewSource(111))
	texts := slices.Concat(names(), wrongNames(), []string{"", "", "", "", "", "", "", ""})
	ns := slices.Concat(numbers(), wrongNumbers(), make([]int, 30))
	may := 0
	for range 200000 {
		k := api.Key{Kind: chance.Intn(13) - 1}
		for _, field := range "ABNM" {
			if strings.ContainsRune(fields(k.Kind), field) || chance.Intn(20) == 0 {
				k = with(k, field, texts[chance.Intn(len(texts))], ns[chance.Intn(len(ns))])
			}
		}
		want(t, k)
		wantPrefix(t, k)
		if fits(k) {
			may++
		}
	}
	if may < 10000 {
		t.Errorf("%d keys alone may be", may)
	}
}

// TestP11_1ParseOfBytesThatAreNone: told one by one.
func TestP11_1ParseOfBytesThatAreNone(t *testing.T) {
	a64, a65 := strings.Repeat("a", 64), strings.Repeat("a", 65)
	for _, s := range []string{
		"", "\x00", "q", "N", "I", "nn", "nx", "n\x00", "n\x00\x00\x01", "0", "\xff", "\x01", "\x0a", "qa", "q\x00\x00\x01",
		"i", "i\x01", "i\x01\x02", "i\x00\x00\x00", "i\x01\x02\x03\x04", "i\x00\x00\x00\x01", "i\x01\x02\x03a",
		"c", "c\x00\x00\x01", "c\x00\x00\x01\x00", "c\x00\x00\x00\x00\x00", "c\x00\x00\x00\x00\x01", "c\x00\x00\x01\x00\x00\x00", "c\x00\x00\x01\x00\x01\x02",
		"d", "d\x00", "d\x00\x00\x01", "d\x00\x00\x00a", "da", "dab", "dabc", "d\x00\x00\x01\x00", "d\x00\x00\x01/", "d\x00\x00\x01a\x00", "d\x00\x00\x01a/b", "d\x00\x00\x01" + a65,
		"p", "p\x00", "p/", "pa\x00", "pa/", "p/a", "pa/b", "p\x00a", "pa\x00b", "p" + a65,
		"r", "ra", "r\x00", "ra\x00", "r\x00b", "rab", "ra\x00\x00b", "ra\x00b\x00", "ra\x00b\x00c", "r\x00a\x00b", "ra/\x00b", "ra\x00/b", "ra\x00b/", "r" + a65 + "\x00b", "ra\x00" + a65, "r" + a64 + a64,
		"u", "ua", "u\x00", "ua\x00", "u\x00b", "uab", "ua\x00\x00b", "ua\x00b\x00", "ua\x00b\x00c", "u\x00a\x00b", "ua/\x00b", "ua\x00/b", "ua\x00b/", "u" + a65 + "\x00b", "ua\x00" + a65,
		"f", "f\x00", "f/", "fa\x00", "fa/b", "f" + a65,
		"g", "ga", "ga\x00", "ga\x00\x00", "ga\x00\x00\x01", "ga\x01\x02\x03", "g\x00\x00\x00\x01", "g\x00\x01\x02\x03", "ga\x00\x00\x00\x00\x01", "ga\x00\x01\x02\x03\x04", "ga/\x00\x00\x00\x01", "gabcd", "g" + a65 + "\x00\x00\x00\x01",
		"t", "t\x00", "t/", "ta\x00", "ta/b", "t" + a65,
		"\x00n", "\x00pa", " pa", "Pa",
	} {
		wantUnread(t, s)
		if k, is := readOf(s); is {
			t.Errorf("%q are the bytes of %s", s, told(k))
		}
	}
	for c := range 256 {
		letter := string([]byte{byte(c)})
		for _, behind := range []string{"", "a", "abc", "\x00\x00\x01", "\x00\x00\x01\x00\x01", "\x00\x00\x01ab", "a\x00b", "a\x00\x00\x00\x01"} {
			wantReadOrNot(t, letter+behind)
			if !strings.Contains("nicdprufgt", letter) {
				wantUnread(t, letter+behind)
			}
		}
	}
}

// TestP11_1ParseOfLongBytes: of each letter, far more of them than a key has.
func TestP11_1ParseOfLongBytes(t *testing.T) {
	for _, letter := range "nicdprufgtq" {
		for _, c := range []string{"a", "\x00", "/", "\xff", "a\x00"} {
			for _, size := range []int{70, 200, 256, 257, 65536, 1 << 20} {
				wantUnread(t, string(letter)+strings.Repeat(c, size))
			}
		}
	}
}

// TestP11_1ParseOfOneByteOtherwise: a byte less, more, or changed, in each place, and all that begins or ends a key's bytes.
func TestP11_1ParseOfOneByteOtherwise(t *testing.T) {
	for _, k := range few() {
		s := laid(k)
		wantRead(t, s, k)
		for at := range len(s) {
			wantReadOrNot(t, s[:at])
			wantReadOrNot(t, s[at:])
			wantReadOrNot(t, s[:at]+s[at+1:])
		}
		if len(s) > 16 {
			wantReadOrNot(t, s+"\x00")
			wantReadOrNot(t, s+"a")
			continue
		}
		for c := range 256 {
			one := string([]byte{byte(c)})
			for at := range len(s) {
				wantReadOrNot(t, s[:at]+one+s[at:])
				wantReadOrNot(t, s[:at]+one+s[at+1:])
			}
			wantReadOrNot(t, s+one)
		}
	}
}

// TestP11_1ParseOfLongNames: a byte less, more, or changed, where names have 63 to 65 bytes.
func TestP11_1ParseOfLongNames(t *testing.T) {
	for _, kind := range kinds() {
		for size := 62; size <= 66; size++ {
			k := plain(kind)
			for _, field := range fields(kind) {
				k = with(k, field, strings.Repeat("z", size), 7)
			}
			wantReadOrNot(t, laid(k))
			for _, s := range []string{"\x00", "/", "a", "\xff"} {
				b := laid(k)
				for at := range len(b) {
					wantReadOrNot(t, b[:at]+s+b[at+1:])
				}
			}
		}
	}
}

// TestP11_1ParseByChance: short bytes, most of which matter.
func TestP11_1ParseByChance(t *testing.T) {
	chance := rand.New(rand.NewSource(112))
	const some = "nicdprufgtq\x00\x00\x00\x00\x00\x00\x01\x01ab/\xff"
	read := 0
	for range 100000 {
		b := make([]byte, chance.Intn(9))
		for k := range b {
			b[k] = some[chance.Intn(len(some))]
			if k == 0 {
				b[k] = some[chance.Intn(11)]
			}
		}
		wantReadOrNot(t, string(b))
		if _, is := readOf(string(b)); is {
			read++
		}
	}
	if read < 5000 {
		t.Errorf("%d bytes alone were a key's", read)
	}
}

func TestP11_2Examples(t *testing.T) {
	for _, x := range []struct {
		k api.Key
		s string
	}{
		{api.Key{Kind: api.KeyCount}, "n"},
		{api.Key{Kind: api.KeyInode}, "i"},
		{api.Key{Kind: api.KeyInode, N: 258}, "i"},
		{api.Key{Kind: api.KeyChunk, N: 258}, "c\x00\x01\x02"},
		{api.Key{Kind: api.KeyChunk, N: last, M: 7}, "c\xff\xff\xff"},
		{api.Key{Kind: api.KeyEntry, N: 66051}, "d\x01\x02\x03"},
		{api.Key{Kind: api.KeyEntry, N: 1, A: "a"}, "d\x00\x00\x01"},
		{api.Key{Kind: api.KeyInfo}, "p"},
		{api.Key{Kind: api.KeyInfo, A: "a"}, "p"},
		{api.Key{Kind: api.KeyRef, A: "a"}, "ra\x00"},
		{api.Key{Kind: api.KeyUser, A: "ab", B: "b"}, "uab\x00"},
		{api.Key{Kind: api.KeyProfile}, "f"},
		{api.Key{Kind: api.KeyGen, A: "a"}, "ga\x00"},
		{api.Key{Kind: api.KeyGen, A: "a", N: 258}, "ga\x00"},
		{api.Key{Kind: api.KeyRoot}, "t"},
	} {
		if got, e := keys.Prefix(x.k); got != x.s || e != api.OK {
			t.Errorf("Prefix(%s) = %q, %d; want %q", told(x.k), got, e, x.s)
		}
		wantPrefix(t, x.k)
	}
}

func TestP11_2KindsThatAreNone(t *testing.T) {
	for _, kind := range wrongKinds() {
		for _, other := range kinds() {
			k := plain(other)
			k.Kind = kind
			if got, e := keys.Prefix(k); got != "" || e != api.ErrArg {
				t.Errorf("Prefix(%s) = %q, %d; want ErrArg", told(k), got, e)
			}
		}
		wantPrefix(t, api.Key{Kind: kind})
	}
	wantPrefix(t, api.Key{})
}

// TestP11_2FirstField: as it may be, and as it may not, of the kinds whose Prefix says it, and of the others.
func TestP11_2FirstField(t *testing.T) {
	for _, kind := range kinds() {
		for _, n := range slices.Concat(numbers(), wrongNumbers(), []int{0}) {
			wantPrefix(t, api.Key{Kind: kind, N: n})
			k := plain(kind)
			k.N = n
			wantPrefix(t, k)
			if _, e := keys.Prefix(k); (e == api.OK) != (n >= 1 && n <= last || kind != 3 && kind != 4) {
				t.Errorf("Prefix(%s): %d", told(k), e)
			}
		}
		for _, a := range slices.Concat(names(), wrongNames()) {
			wantPrefix(t, api.Key{Kind: kind, A: a})
			k := plain(kind)
			k.A = a
			wantPrefix(t, k)
			if _, e := keys.Prefix(k); (e == api.OK) != (isName(a) || kind != 6 && kind != 7 && kind != 9) {
				t.Errorf("Prefix(%s): %d", told(k), e)
			}
		}
	}
}

// TestP11_2OtherFieldsDoNotCount: whatever they are, those among them that the kind has not.
func TestP11_2OtherFieldsDoNotCount(t *testing.T) {
	texts := slices.Concat(wrongNames(), names())
	ns := slices.Concat(wrongNumbers(), numbers(), []int{0})
	for _, kind := range kinds() {
		want, _ := prefixOf(plain(kind))
		for _, field := range "ABNM" {
			if hasFirst(kind) && rune(fields(kind)[0]) == field {
				continue
			}
			for at := range max(len(texts), len(ns)) {
				k := with(plain(kind), field, texts[at%len(texts)], ns[at%len(ns)])
				if got, e := keys.Prefix(k); got != want || e != api.OK {
					t.Errorf("Prefix(%s) = %.99q, %d; want %q", told(k), got, e, want)
				}
			}
		}
	}
	for _, k := range []api.Key{
		{Kind: 3, A: "/", B: "\x00", N: 7, M: -1}, {Kind: 4, A: "/", B: "\x00", N: 7, M: -1}, {Kind: 6, A: "a", B: "\x00", N: -7, M: -1}, {Kind: 7, A: "a", N: -7, M: 65536},
		{Kind: 9, A: "a", B: "/", N: -7, M: -1}, {Kind: 1, A: "/", B: "\x00", N: -7, M: -1}, {Kind: 2, A: "/", B: "\x00", N: -7, M: -1}, {Kind: 5, A: "/", B: "\x00", N: -7, M: -1}, {Kind: 8, A: "/", N: 1 << 24}, {Kind: 10, A: strings.Repeat("a", 70000), M: 1 << 16},
	} {
		if _, e := keys.Prefix(k); e != api.OK {
			t.Errorf("Prefix(%s): %d", told(k), e)
		}
		wantPrefix(t, k)
	}
}

// TestP11_3ReadAsItself: what is laid down is, and what is read is laid down as the same bytes.
func TestP11_3ReadAsItself(t *testing.T) {
	for _, k := range samples() {
		s, e := keys.Bytes(k)
		if e != api.OK {
			t.Fatalf("Bytes(%s): %d", told(k), e)
		}
		wantRead(t, s, k)
	}
	for n := 1; n <= last; n = n*3/2 + 1 {
		for m := 0; m <= 65535; m = m*3/2 + 1 {
			k := api.Key{Kind: api.KeyChunk, N: n, M: m}
			s, _ := keys.Bytes(k)
			wantRead(t, s, k)
		}
	}
	for _, k := range few() {
		s := laid(k)
		for c := range 256 {
			changed := s[:len(s)-1] + string([]byte{byte(c)})
			got, e := keys.Parse(changed)
			if back, f := keys.Bytes(got); e == api.OK && (back != changed || f != api.OK) {
				t.Errorf("Parse(%.99q) = %s, whose bytes are %.99q, %d", changed, told(got), back, f)
			}
		}
	}
}

// TestP11_3UnlikeKeys: no two have the same bytes.
func TestP11_3UnlikeKeys(t *testing.T) {
	of := map[string]api.Key{}
	for _, k := range append(samples(), few()...) {
		s, e := keys.Bytes(k)
		if other, is := of[s]; is && other != k || e != api.OK {
			t.Errorf("%s has the bytes %.99q, %d, as has %s", told(k), s, e, told(other))
		}
		of[s] = k
	}
}

// TestP11_3BytesRise: as N does, whatever else is alike, and as M does, across each byte's edge.
func TestP11_3BytesRise(t *testing.T) {
	rise := func(lower, upper api.Key) {
		t.Helper()
		a, e := keys.Bytes(lower)
		b, f := keys.Bytes(upper)
		if a >= b || e != api.OK || f != api.OK {
			t.Errorf("%s: %q, %d; %s: %q, %d: they do not rise", told(lower), a, e, told(upper), b, f)
		}
	}
	ns := slices.Sorted(slices.Values(append(numbers(), 1000, 100000, 1000000)))
	for i, upper := range ns {
		for _, lower := range ns[:i] {
			rise(api.Key{Kind: 2, N: lower}, api.Key{Kind: 2, N: upper})
			rise(api.Key{Kind: 3, N: lower, M: 65535}, api.Key{Kind: 3, N: upper})
			rise(api.Key{Kind: 3, N: lower, M: 5}, api.Key{Kind: 3, N: upper, M: 5})
			rise(api.Key{Kind: 4, N: lower, A: "\xff"}, api.Key{Kind: 4, N: upper, A: "\x01"})
			for _, a := range names() {
				rise(api.Key{Kind: 9, A: a, N: lower}, api.Key{Kind: 9, A: a, N: upper})
			}
		}
		rise(api.Key{Kind: 9, A: "a"}, api.Key{Kind: 9, A: "a", N: upper})
	}
	for i, upper := range chunks() {
		for _, lower := range chunks()[:i] {
			for _, n := range numbers() {
				rise(api.Key{Kind: 3, N: n, M: lower}, api.Key{Kind: 3, N: n, M: upper})
			}
		}
	}
	for m := range 65535 {
		rise(api.Key{Kind: 3, N: 9, M: m}, api.Key{Kind: 3, N: 9, M: m + 1})
	}
}

// TestP11_3KeysBeginWithPrefix: just if they are of the kind and have the field, names that are the beginning of others among them.
func TestP11_3KeysBeginWithPrefix(t *testing.T) {
	l := few()
	for _, a := range names() {
		l = append(l, api.Key{Kind: 6, A: a, B: "a"}, api.Key{Kind: 7, A: a, B: a}, api.Key{Kind: 9, A: a, N: 24930}, api.Key{Kind: 4, N: 24930, A: a}, api.Key{Kind: 5, A: a})
	}
	both := 0
	for _, j := range l {
		prefix, e := keys.Prefix(j)
		if e != api.OK {
			t.Fatalf("Prefix(%s): %d", told(j), e)
		}
		for _, k := range l {
			s, _ := keys.Bytes(k)
			want := k.Kind == j.Kind
			switch j.Kind {
			case api.KeyChunk, api.KeyEntry:
				want = want && k.N == j.N
			case api.KeyRef, api.KeyUser, api.KeyGen:
				want = want && k.A == j.A
			}
			if strings.HasPrefix(s, prefix) != want {
				t.Errorf("%s begins with the Prefix of %s: %v", told(k), told(j), !want)
			}
			if want && k != j {
				both++
			}
		}
	}
	if both < 1000 {
		t.Errorf("%d keys alone begin with another one's Prefix", both)
	}
}

// TestP11_3PrefixIsAllThatIsAlike: no longer text begins all keys of the kind with the field.
func TestP11_3PrefixIsAllThatIsAlike(t *testing.T) {
	for _, x := range [][]api.Key{
		{{Kind: 2, N: 1}, {Kind: 2, N: last}},
		{{Kind: 3, N: 5}, {Kind: 3, N: 5, M: 65535}},
		{{Kind: 4, N: 5, A: "a"}, {Kind: 4, N: 5, A: "b"}},
		{{Kind: 5, A: "a"}, {Kind: 5, A: "b"}},
		{{Kind: 6, A: "a", B: "a"}, {Kind: 6, A: "a", B: "b"}},
		{{Kind: 7, A: "a", B: "a"}, {Kind: 7, A: "a", B: "b"}},
		{{Kind: 8, A: "a"}, {Kind: 8, A: "b"}},
		{{Kind: 9, A: "a"}, {Kind: 9, A: "a", N: last}},
		{{Kind: 10, A: "a"}, {Kind: 10, A: "b"}},
	} {
		prefix, _ := keys.Prefix(x[0])
		a, _ := keys.Bytes(x[0])
		b, _ := keys.Bytes(x[1])
		if !strings.HasPrefix(a, prefix) || !strings.HasPrefix(b, prefix) || a[len(prefix)] == b[len(prefix)] {
			t.Errorf("the Prefix %q of %q and %q", prefix, a, b)
		}
	}
}

// TestR1LongTexts: the calls end, and with the error nothing else is told.
func TestR1LongTexts(t *testing.T) {
	long := strings.Repeat("a", 1<<24)
	for _, kind := range append(kinds(), wrongKinds()...) {
		k := api.Key{Kind: kind, A: long, B: long, N: math.MinInt, M: math.MaxInt}
		wantWrong(t, k)
		wantPrefix(t, k)
	}
	for _, s := range []string{long, "p" + long, "r" + long + "\x00" + long, "g" + long + "\x00\x00\x00\x01", "d\x00\x00\x01" + long} {
		wantUnread(t, s)
	}
}

// TestR2WhatIsGivenIsNotKept: the bytes of the texts that were handed in are as they were, and are written over then, which is not seen in an answer.
func TestR2WhatIsGivenIsNotKept(t *testing.T) {
	for _, k := range append(few(), api.Key{Kind: 6, A: "a/", B: "b"}, api.Key{Kind: 8, A: "a", B: "b"}) {
		room := []byte(k.A + k.B + strings.Repeat("\xcc", 64))
		was := string(room)
		given := k
		given.A = unsafe.String(&room[0], len(k.A))
		given.B = unsafe.String(&room[len(k.A)], len(k.B))
		keys.Check(given)
		s, _ := keys.Bytes(given)
		prefix, _ := keys.Prefix(given)
		if string(room) != was {
			t.Errorf("%s is written into: %q; was %q", told(k), room, was)
		}
		for at := range room {
			room[at] = 'X'
		}
		want, _ := prefixOf(k)
		if fits(k) && s != laid(k) || prefix != want {
			t.Errorf("%s: a change of its texts is seen: %q, %q", told(k), s, prefix)
		}
	}
	for _, k := range few() {
		s := laid(k)
		room := []byte(s + strings.Repeat("\xcc", 64))
		got, e := keys.Parse(unsafe.String(&room[0], len(s)))
		if string(room) != s+strings.Repeat("\xcc", 64) {
			t.Errorf("%q is written into: %q", s, room)
		}
		for at := range room {
			room[at] = 'X'
		}
		if got != k || e != api.OK {
			t.Errorf("a change of %q is seen: %s, %d", s, told(got), e)
		}
	}
}

// TestR2WhatComesOutIsNew: it shares no memory with what was given, nor with another answer. (A text of one byte may.)
func TestR2WhatComesOutIsNew(t *testing.T) {
	for _, k := range few() {
		given := k
		given.A, given.B = strings.Clone(k.A), strings.Clone(k.B)
		one, _ := keys.Bytes(given)
		other, _ := keys.Bytes(given)
		first, _ := keys.Prefix(given)
		second, _ := keys.Prefix(given)
		scribble(one)
		scribble(first)
		if want, _ := prefixOf(k); given != k || other != laid(k) || second != want {
			t.Errorf("%s: a change of an answer is seen: %s, %q, %q", told(k), told(given), other, second)
		}
		s := strings.Clone(laid(k))
		got, _ := keys.Parse(s)
		again, _ := keys.Parse(s)
		scribble(got.A)
		if again.A != k.A || s != laid(k) || got.B != k.B {
			t.Errorf("%s: a change of its A is seen: %s, %s, %q", told(k), told(again), told(got), s)
		}
		scribble(got.B)
		if again != k || s != laid(k) {
			t.Errorf("%s: a change of its B is seen: %s, %q", told(k), told(again), s)
		}
	}
}

// scribble writes over a text of more than one byte.
func scribble(s string) {
	if len(s) > 1 {
		b := unsafe.Slice(unsafe.StringData(s), len(s))
		for at := range b {
			b[at] = 0x55
		}
	}
}

// TestR2CallsHangOnTheirArgumentsAlone: whatever was called between.
func TestR2CallsHangOnTheirArgumentsAlone(t *testing.T) {
	for range 3 {
		for _, k := range few() {
			want(t, k)
			wantPrefix(t, k)
			wantRead(t, laid(k), k)
			wrong := k
			wrong.N += 1 << 24
			want(t, wrong)
			wantPrefix(t, wrong)
			wantUnread(t, laid(k)+"/")
		}
	}
}
