package pair_test

import (
	"bytes"
	"math"
	"slices"
	"strings"
	"testing"

	"coppice/api"
	"coppice/pair"
	"coppice/vint"
)

// dice are numbers below a bound, the same ones at each run.
type dice uint64

func (d *dice) below(n int) int {
	x := uint64(*d)*6364136223846793005 + 1442695040888963407
	*d = dice(x)
	return int((x >> 33) % uint64(n))
}

// text are so many bytes of a few kinds, so that texts often have much in common.
func (d *dice) text(size int) []byte {
	b := make([]byte, size)
	for i := range b {
		b[i] = []byte{0, 0, 'a', 'a', 'a', 'b', 255, 255}[d.below(8)]
	}
	return b
}

// behind is a text that begins as another one does, as far as the dice say.
func (d *dice) behind(prev []byte, size int) []byte {
	b := d.text(size)
	copy(b[:d.below(size+1)], prev)
	return b
}

// texts are all of up to so many bytes 00, a and ff: by their lengths.
func texts(long int) [][]byte {
	l := [][]byte{nil}
	for from := 0; len(l[from]) < long; from++ {
		for _, c := range []byte{0, 'a', 255} {
			l = append(l, append(slices.Clone(l[from]), c))
		}
	}
	return l
}

func repeat(c byte, count int, rest ...byte) []byte {
	return append(bytes.Repeat([]byte{c}, count), rest...)
}

func entry(key, value string) api.Entry {
	return api.Entry{Key: []byte(key), Value: []byte(value)}
}

// sized is an entry with a key and a value of so many bytes.
func sized(key, value int) api.Entry {
	return api.Entry{Key: repeat('k', key), Value: repeat('v', value)}
}

func same(x, y api.Entry) bool {
	return bytes.Equal(x.Key, y.Key) && bytes.Equal(x.Value, y.Value)
}

// below is the chapter's word, told by its words.
func below(a, b []byte) bool {
	for i := range min(len(a), len(b)) {
		if a[i] != b[i] {
			return a[i] < b[i]
		}
	}
	return len(a) < len(b)
}

func common(a, b []byte) int {
	n := 0
	for n < len(a) && n < len(b) && a[n] == b[n] {
		n++
	}
	return n
}

func checkCompare(t *testing.T, a, b []byte, want int) {
	t.Helper()
	if got := pair.Compare(a, b); got != want {
		t.Errorf("Compare of %q, %q: %d, want %d", a, b, got, want)
	}
}

func checkCommon(t *testing.T, a, b []byte, want int) {
	t.Helper()
	if got := pair.Common(a, b); got != want {
		t.Errorf("Common of %q, %q: %d, want %d", a, b, got, want)
	}
}

func checkBetween(t *testing.T, a, b, want []byte, err api.Errno) {
	t.Helper()
	if got, gotErr := pair.Between(a, b); !bytes.Equal(got, want) || gotErr != err {
		t.Errorf("Between of %q, %q: %q, %d; want %q, %d", a, b, got, gotErr, want, err)
	}
}

func checkAfter(t *testing.T, k, want []byte, is bool) {
	t.Helper()
	if got, gotIs := pair.After(k); !bytes.Equal(got, want) || gotIs != is {
		t.Errorf("After of %q: %q, %t; want %q, %t", k, got, gotIs, want, is)
	}
}

func checkSorted(t *testing.T, n int, err api.Errno, l ...api.Entry) {
	t.Helper()
	if got, gotErr := pair.Sorted(l); got != n || gotErr != err {
		t.Errorf("Sorted of %q: %d, %d; want %d, %d", l, got, gotErr, n, err)
	}
}

func checkBytes(t *testing.T, prev []byte, e api.Entry, want []byte) {
	t.Helper()
	if got := pair.Bytes(prev, e); !bytes.Equal(got, want) {
		t.Errorf("Bytes behind %q of %q: % x; want % x", prev, e, got, want)
	}
}

func checkRead(t *testing.T, prev, b []byte, at int, e api.Entry, place int, err api.Errno) {
	t.Helper()
	if got, gotPlace, gotErr := pair.Read(prev, b, at); !same(got, e) || gotPlace != place || gotErr != err {
		t.Errorf("Read behind %q of % x at %d: %q, %d, %d; want %q, %d, %d", prev, b, at, got, gotPlace, gotErr, e, place, err)
	}
}

func checkFault(t *testing.T, prev string, b []byte, place int, err api.Errno) {
	t.Helper()
	checkRead(t, []byte(prev), b, 0, api.Entry{}, place, err)
}

// The rows of the chapter's table of examples.
func TestExamples(t *testing.T) {
	checkCompare(t, []byte("ab"), []byte("b"), -1)
	checkCompare(t, []byte("a"), []byte("ab"), -1)
	checkCompare(t, []byte(""), []byte(""), 0)
	checkCommon(t, []byte("abc"), []byte("abd"), 2)
	checkCommon(t, []byte("a"), []byte("ab"), 1)
	checkBetween(t, []byte("abc"), []byte("abx"), []byte("abx"), api.OK)
	checkBetween(t, []byte("a"), []byte("ab"), []byte("ab"), api.OK)
	checkBetween(t, []byte(""), []byte("q"), []byte("q"), api.OK)
	checkBetween(t, []byte("b"), []byte("a"), nil, api.ErrPairOrder)
	checkBetween(t, []byte("abc"), []byte("bcd"), []byte("b"), api.OK)
	checkAfter(t, []byte("a"), []byte("a\x00"), true)
	checkAfter(t, []byte(""), []byte{0}, true)
	checkAfter(t, repeat(255, 64), nil, false)
	checkAfter(t, repeat('a', 63, 255), repeat('a', 62, 'b'), true)
	b := []byte{2, 1, 2, 0x78, 0x31, 0x32}
	checkBytes(t, []byte("abc"), entry("abx", "12"), b)
	checkRead(t, []byte("abc"), b, 0, entry("abx", "12"), 6, api.OK)
	checkFault(t, "abx", b, 0, api.ErrPairShared)
	checkRead(t, []byte("ab"), b, 0, entry("abx", "12"), 6, api.OK)
	checkFault(t, "", []byte{0, 0, 0}, 0, api.ErrLong)
	checkFault(t, "b", []byte{0, 1, 0, 0x61}, 0, api.ErrPairOrder)
	checkFault(t, "", []byte{0, 1, 5, 0x61}, 4, api.ErrPairShort)
}

// K1: by their lengths alone, whatever the bytes are.
func TestKeyAndValue(t *testing.T) {
	for _, c := range []struct {
		size       int
		key, value api.Errno
	}{
		{0, api.ErrLong, api.OK}, {1, api.OK, api.OK}, {2, api.OK, api.OK}, {63, api.OK, api.OK}, {64, api.OK, api.OK}, {65, api.ErrLong, api.OK},
		{255, api.ErrLong, api.OK}, {256, api.ErrLong, api.OK}, {257, api.ErrLong, api.ErrLong}, {100000, api.ErrLong, api.ErrLong},
	} {
		for _, fill := range []byte{0, 'a', 255} {
			b := repeat(fill, c.size)
			if key, value := pair.Key(b), pair.Value(b); key != c.key || value != c.value {
				t.Errorf("%d bytes %x: %d, %d", c.size, fill, key, value)
			}
		}
		room := make([]byte, c.size, c.size+300)
		if key, value := pair.Key(room), pair.Value(room); key != c.key || value != c.value {
			t.Errorf("%d bytes, and spare room: %d, %d", c.size, key, value)
		}
	}
	if key, value := pair.Key(nil), pair.Value(nil); key != api.ErrLong || value != api.OK {
		t.Errorf("nil: %d, %d", key, value)
	}
}

// K1.
func TestCheck(t *testing.T) {
	for _, key := range []int{0, 1, 64, 65} {
		for _, value := range []int{0, 1, 64, 65, 256, 257} {
			want := api.OK
			if key == 0 || key == 65 || value == 257 {
				want = api.ErrLong
			}
			if got := pair.Check(sized(key, value)); got != want {
				t.Errorf("a key of %d and a value of %d bytes: %d", key, value, got)
			}
		}
	}
	if got := pair.Check(api.Entry{}); got != api.ErrLong {
		t.Errorf("no entry: %d", got)
	}
	if got := pair.Check(api.Entry{Key: []byte{0}}); got != api.OK {
		t.Errorf("no value: %d", got)
	}
}

// K2: each text with each, the same and the empty one among them.
func TestCompareAndCommon(t *testing.T) {
	for _, a := range texts(4) {
		for _, b := range texts(4) {
			want := strings.Compare(string(a), string(b))
			if below(a, b) != (want < 0) || below(b, a) != (want > 0) {
				t.Fatalf("this test's own order of %q, %q", a, b)
			}
			checkCompare(t, a, b, want)
			checkCommon(t, a, b, common(a, b))
		}
	}
}

// K2: bytes are held against each other as numbers from 0 to 255, and the first ones that are unlike decide.
func TestCompareBytes(t *testing.T) {
	for x := range 256 {
		for y := range 256 {
			want := 0
			if x != y {
				want = (x - y) / max(x-y, y-x)
			}
			checkCompare(t, []byte{'m', byte(x)}, []byte{'m', byte(y)}, want)
			if x != y {
				checkCompare(t, []byte{byte(x), 255, 0}, []byte{byte(y), 0}, want)
				checkCommon(t, []byte{7, byte(x), 8}, []byte{7, byte(y), 8}, 1)
			}
		}
	}
}

// K2: texts that are longer than a key may be, and such as have spare room.
func TestCompareLong(t *testing.T) {
	for _, size := range []int{63, 64, 65, 300, 5000} {
		a := repeat('a', size)
		for _, at := range []int{0, 1, 62, size - 1} {
			b := slices.Clone(a)
			b[at]++
			checkCompare(t, a, b, -1)
			checkCompare(t, b, a, 1)
			checkCommon(t, a, b, at)
			checkCommon(t, b, a, at)
			checkCompare(t, a[:at], a, -1)
			checkCompare(t, a, a[:at], 1)
			checkCommon(t, a[:at], a, at)
		}
		checkCompare(t, a, slices.Clone(a), 0)
		checkCommon(t, a, slices.Clone(a), size)
	}
	checkCompare(t, nil, []byte{}, 0)
	checkCommon(t, nil, []byte{}, 0)
}

// K3: not in order: above, the same, and such as begin with b.
func TestBetweenOrder(t *testing.T) {
	for _, b := range append(texts(3), repeat('a', 64), repeat(255, 100)) {
		checkBetween(t, b, b, nil, api.ErrPairOrder)
		checkBetween(t, slices.Clone(b), b, nil, api.ErrPairOrder)
		checkBetween(t, append(slices.Clone(b), 0), b, nil, api.ErrPairOrder)
		checkBetween(t, append(slices.Clone(b), 255, 0), b, nil, api.ErrPairOrder)
		checkBetween(t, b, nil, nil, api.ErrPairOrder)
	}
	checkBetween(t, []byte{1, 0}, []byte{0, 255, 255}, nil, api.ErrPairOrder)
	checkBetween(t, []byte{255}, []byte{254, 255}, nil, api.ErrPairOrder)
}

// K3: it is all of b, or only some of it.
func TestBetweenShortest(t *testing.T) {
	for _, c := range []struct{ a, b, want string }{
		{"", "\x00", "\x00"}, {"", "abc", "a"}, {"a", "ab", "ab"}, {"a", "abcd", "ab"}, {"a", "a\x00", "a\x00"}, {"a", "a\x00\x00", "a\x00"},
		{"abc", "abd", "abd"}, {"abc", "abdef", "abd"}, {"abcxyz", "abd", "abd"}, {"a\xff", "b", "b"}, {"a\xff\xff", "b\x00", "b"}, {"a\x00", "a\xff\xff", "a\xff"}, {"\x00", "\x00\x00\xff", "\x00\x00"},
	} {
		checkBetween(t, []byte(c.a), []byte(c.b), []byte(c.want), api.OK)
	}
	long := repeat('a', 300)
	checkBetween(t, long[:299], long, long, api.OK)
	checkBetween(t, long[:64], long, long[:65], api.OK)
	checkBetween(t, long, repeat('a', 200, 'b', 'c'), repeat('a', 200, 'b'), api.OK)
}

// K3: each text with each: the shortest beginning that a is below; nothing that is above a, and not above b, is shorter.
func TestBetweenAll(t *testing.T) {
	all := texts(4)
	for _, a := range all {
		for _, b := range all {
			var want []byte
			err := api.ErrPairOrder
			if below(a, b) {
				n := 0
				for !below(a, b[:n]) {
					n++
				}
				want, err = b[:n], api.OK
			}
			checkBetween(t, a, b, want, err)
			if err != api.OK {
				continue
			}
			for _, other := range all {
				if len(other) < len(want) && below(a, other) && !below(b, other) {
					t.Errorf("between %q and %q there is %q", a, b, other)
				}
			}
		}
	}
}

// leastAfter looks for the least key above k among all that go with it up to some place, and have any one byte there: whatever is above k begins with such a one that is above it too.
func leastAfter(k []byte) ([]byte, bool) {
	var least []byte
	for same := range min(len(k)+1, 64) {
		for c := range 256 {
			key := append(slices.Clone(k[:same]), byte(c))
			if below(k, key) && (least == nil || below(key, least)) {
				least = key
			}
		}
	}
	return least, least != nil
}

// K4: the edges that are told.
func TestAfter(t *testing.T) {
	for _, c := range []struct {
		k, want []byte
	}{
		{nil, []byte{0}},
		{[]byte{}, []byte{0}},
		{[]byte{0}, []byte{0, 0}},
		{[]byte{255}, []byte{255, 0}},
		{repeat('a', 62), repeat('a', 62, 0)},
		{repeat('a', 63), repeat('a', 63, 0)},
		{repeat(255, 63), repeat(255, 63, 0)},
		{repeat('a', 62, 255), repeat('a', 62, 255, 0)},
		{repeat('a', 64), repeat('a', 63, 'b')},
		{repeat(0, 64), repeat(0, 63, 1)},
		{repeat('a', 63, 254), repeat('a', 63, 255)},
		{repeat('a', 63, 255), repeat('a', 62, 'b')},
		{append([]byte("ab"), repeat(255, 62)...), []byte("ac")},
		{append([]byte{0}, repeat(255, 63)...), []byte{1}},
		{append([]byte{254}, repeat(255, 63)...), []byte{255}},
		{repeat('a', 65), repeat('a', 63, 'b')},
		{repeat('a', 64, 0), repeat('a', 63, 'b')},
		{repeat('a', 64, 255), repeat('a', 63, 'b')},
		{repeat('a', 63, 255, 0), repeat('a', 62, 'b')},
		{repeat('a', 63, 255, 255), repeat('a', 62, 'b')},
		{repeat('a', 70), repeat('a', 63, 'b')},
		{append(repeat(255, 63), 254, 255, 255), repeat(255, 64)},
		{repeat('a', 5000), repeat('a', 63, 'b')},
	} {
		checkAfter(t, c.k, c.want, true)
	}
}

// K4: nothing but ff, as far as a key goes.
func TestAfterNone(t *testing.T) {
	for _, size := range []int{64, 65, 66, 128, 5000} {
		checkAfter(t, repeat(255, size), nil, false)
	}
	checkAfter(t, repeat(255, 64, 0), nil, false)
	checkAfter(t, repeat(255, 64, 'a', 'b'), nil, false)
	for _, size := range []int{0, 1, 2, 62, 63} {
		checkAfter(t, repeat(255, size), repeat(255, size, 0), true)
	}
}

// K4: the least one, of all that may be; a key that is above.
func TestAfterLeast(t *testing.T) {
	d := dice(4)
	l := texts(3)
	for _, size := range []int{1, 5, 62, 63, 64, 65, 66, 100} {
		for range 10 {
			k := d.text(size)
			l = append(l, k, append(slices.Clone(k[:size/2]), repeat(255, size-size/2)...))
		}
	}
	for _, k := range l {
		want, is := leastAfter(k)
		checkAfter(t, k, want, is)
		if got, is := pair.After(k); is && (pair.Key(got) != api.OK || !below(k, got)) {
			t.Errorf("After of %q: %q", k, got)
		}
	}
}

// K5: none, one, more that rise.
func TestSorted(t *testing.T) {
	checkSorted(t, 0, api.OK)
	if n, err := pair.Sorted([]api.Entry{}); n != 0 || err != api.OK {
		t.Errorf("an empty list: %d, %d", n, err)
	}
	checkSorted(t, 0, api.OK, sized(1, 0))
	checkSorted(t, 0, api.OK, sized(64, 256))
	checkSorted(t, 0, api.OK, entry("a", "z"), entry("ab", ""), entry("b", "y"), entry("ba", "y"), entry("\xff", "a"))
	checkSorted(t, 0, api.OK, entry("\x00", ""), entry("\x00\x00", ""), entry("\x00\x01", ""), entry("\x01", ""))
	var many []api.Entry
	for i := range 300 {
		many = append(many, api.Entry{Key: []byte{byte(i >> 8), byte(i)}})
	}
	checkSorted(t, 0, api.OK, many...)
}

// K5: one that may not be, alone, and at each place of those that rise.
func TestSortedCheck(t *testing.T) {
	for _, wrong := range []api.Entry{{}, sized(0, 3), sized(65, 0), sized(1, 257), sized(0, 257), sized(100, 1000)} {
		checkSorted(t, 0, api.ErrLong, wrong)
		for at := range 4 {
			l := []api.Entry{entry("a", ""), entry("b", ""), entry("c", ""), entry("d", "")}
			l[at] = wrong
			checkSorted(t, at, api.ErrLong, l...)
		}
		checkSorted(t, 0, api.ErrLong, wrong, wrong)
	}
}

// K5: two that are not in order: the second one's number, at each place.
func TestSortedOrder(t *testing.T) {
	for at := range 4 {
		rise := []api.Entry{entry("b", ""), entry("c", ""), entry("d", ""), entry("e", ""), entry("f", "")}
		checkSorted(t, at+1, api.ErrPairOrder, slices.Insert(slices.Clone(rise), at+1, rise[at])...)
		checkSorted(t, at+1, api.ErrPairOrder, slices.Insert(slices.Clone(rise), at+1, entry("a", "1"))...)
		rise[at], rise[at+1] = rise[at+1], rise[at]
		checkSorted(t, at+1, api.ErrPairOrder, rise...)
	}
	checkSorted(t, 1, api.ErrPairOrder, entry("a", ""), entry("a", ""))
	checkSorted(t, 1, api.ErrPairOrder, entry("a", "1"), entry("a", "2"))
	checkSorted(t, 1, api.ErrPairOrder, entry("ab", ""), entry("a", ""))
	checkSorted(t, 2, api.ErrPairOrder, entry("a", ""), entry("c", ""), entry("b", ""))
	// Only the one right ahead counts.
	checkSorted(t, 2, api.ErrPairOrder, entry("b", ""), entry("c", ""), entry("a", ""), entry("a", ""))
}

// K5: one that may not be ahead of two that are not in order, behind them, as one of them.
func TestSortedBoth(t *testing.T) {
	wrong := sized(1, 257)
	a, b := entry("a", ""), entry("b", "")
	checkSorted(t, 0, api.ErrLong, wrong, b, a)
	checkSorted(t, 1, api.ErrLong, a, wrong, b, a)
	checkSorted(t, 1, api.ErrPairOrder, b, a, wrong)
	checkSorted(t, 2, api.ErrPairOrder, a, b, a, wrong)
	checkSorted(t, 1, api.ErrLong, b, api.Entry{Key: []byte("a"), Value: make([]byte, 257)})
	checkSorted(t, 1, api.ErrLong, b, api.Entry{})
	checkSorted(t, 2, api.ErrLong, a, b, api.Entry{Key: repeat('a', 65)}, a)
	checkSorted(t, 0, api.ErrLong, api.Entry{Key: repeat('z', 65)}, a)
}

// spell is an entry's bytes, by the words of the chapter's section 'Types'.
func spell(prev []byte, e api.Entry) []byte {
	n := common(prev, e.Key)
	b := slices.Concat(vint.Bytes(uint64(n)), vint.Bytes(uint64(len(e.Key)-n)), vint.Bytes(uint64(len(e.Value))))
	return slices.Concat(b, e.Key[n:], e.Value)
}

// K6: entries that may be.
func TestBytes(t *testing.T) {
	for _, c := range []struct {
		prev string
		e    api.Entry
		want string
	}{
		{"", entry("a", ""), "\x00\x01\x00a"},
		{"", entry("abc", "12"), "\x00\x03\x02abc12"},
		{"a", entry("abc", "12"), "\x01\x02\x02bc12"},
		{"abc", entry("abd", ""), "\x02\x01\x00d"},
		{"abc", entry("b", "abc"), "\x00\x01\x03babc"},
		{"\x00", entry("\x00\x00", "\x00"), "\x01\x01\x01\x00\x00"},
		{"\xff", entry("\xff\xff", "\xff"), "\x01\x01\x01\xff\xff"},
		// A prev that is not below it, the same, one that it begins.
		{"b", entry("a", "1"), "\x00\x01\x01a1"},
		{"abd", entry("abc", ""), "\x02\x01\x00c"},
		{"abc", entry("abc", "1"), "\x03\x00\x011"},
		{"abcd", entry("abc", ""), "\x03\x00\x00"},
	} {
		checkBytes(t, []byte(c.prev), c.e, []byte(c.want))
	}
	whole := slices.Concat([]byte{0, 64, 0x80, 2}, repeat('k', 64), repeat('v', 256))
	checkBytes(t, nil, sized(64, 256), whole)
	checkBytes(t, []byte{}, sized(64, 256), whole)
	checkBytes(t, repeat('k', 63), sized(64, 256), slices.Concat([]byte{63, 1, 0x80, 2, 'k'}, repeat('v', 256)))
}

// K6: entries that may not be.
func TestBytesOfAny(t *testing.T) {
	checkBytes(t, nil, api.Entry{}, []byte{0, 0, 0})
	checkBytes(t, []byte("abc"), api.Entry{}, []byte{0, 0, 0})
	checkBytes(t, []byte("abc"), entry("", "1"), []byte{0, 0, 1, '1'})
	checkBytes(t, nil, sized(65, 0), slices.Concat([]byte{0, 65, 0}, repeat('k', 65)))
	checkBytes(t, nil, sized(1, 257), slices.Concat([]byte{0, 1, 0x81, 2, 'k'}, repeat('v', 257)))
	checkBytes(t, repeat('k', 200), sized(1000, 20000), slices.Concat([]byte{0xc8, 1, 0xa0, 6, 0xa0, 0x9c, 1}, repeat('k', 800), repeat('v', 20000)))
	d := dice(6)
	for range 2000 {
		prev := d.text(d.below(200))
		e := api.Entry{Key: d.behind(prev, d.below(200)), Value: d.text(d.below(400))}
		checkBytes(t, prev, e, spell(prev, e))
	}
}

// expected is what K7 says of Read, told a second time.
func expected(prev, b []byte, at int) (api.Entry, int, api.Errno) {
	if at < 0 || at > len(b) {
		return api.Entry{}, 0, api.ErrArg
	}
	var l []uint64
	place := at
	for len(l) < 3 {
		n, next, err := vint.Read(b, place)
		if err != api.OK {
			return api.Entry{}, next, err
		}
		l, place = append(l, n), next
	}
	shared, own, value := l[0], l[1], l[2]
	if shared > uint64(len(prev)) {
		return api.Entry{}, at, api.ErrPairShared
	}
	if shared > 64 || own > 64-shared || shared == 0 && own == 0 || value > 256 {
		return api.Entry{}, at, api.ErrLong
	}
	if uint64(len(b[place:])) < own+value {
		return api.Entry{}, len(b), api.ErrPairShort
	}
	e := api.Entry{Key: slices.Concat(prev[:shared], b[place:][:own]), Value: b[place:][own:][:value]}
	if common(e.Key, prev) != int(shared) {
		return api.Entry{}, at, api.ErrPairShared
	}
	if len(prev) > 0 && !below(prev, e.Key) {
		return api.Entry{}, at, api.ErrPairOrder
	}
	return e, place + int(own) + int(value), api.OK
}

func checkExpected(t *testing.T, prev, b []byte, at int) {
	t.Helper()
	e, place, err := expected(prev, b, at)
	checkRead(t, prev, b, at, e, place, err)
}

// K7: places that there are not, whatever the bytes are; the end.
func TestReadPlaces(t *testing.T) {
	for _, prev := range [][]byte{nil, []byte("a"), repeat('a', 100)} {
		for _, b := range [][]byte{nil, {}, {0, 1, 0, 'b'}, {0x80, 0}} {
			for _, at := range []int{math.MinInt, math.MinInt + 1, -2, -1, len(b) + 1, len(b) + 2, math.MaxInt - 1, math.MaxInt} {
				checkRead(t, prev, b, at, api.Entry{}, 0, api.ErrArg)
			}
			checkRead(t, prev, b, len(b), api.Entry{}, len(b), api.ErrVintShort)
		}
	}
	// The spare room is no part of it.
	b := []byte{0, 1, 0, 'b', 0, 1, 0, 'c'}
	checkRead(t, nil, b[:4], 5, api.Entry{}, 0, api.ErrArg)
	checkRead(t, nil, b[:4], 4, api.Entry{}, 4, api.ErrVintShort)
	checkRead(t, nil, b[:7], 4, api.Entry{}, 7, api.ErrPairShort)
	checkRead(t, []byte("b"), b, 4, entry("c", ""), 8, api.OK)
	checkRead(t, []byte("b")[:0], b, 0, entry("b", ""), 4, api.OK)
}

// K7, 1: at each of the three places a number that is cut, too long, or in more bytes than it needs; ahead of what is wrong with those ahead of it.
func TestReadNumbers(t *testing.T) {
	for _, ahead := range [][]byte{{}, {0}, {9}, {0, 0}, {0, 1}, {0, 65}, {9, 1}, {0x80, 2}, {1, 0xff, 0xff, 3}} {
		if numbers, _, _ := vint.List(ahead); len(numbers) > 2 {
			t.Fatal(ahead)
		}
		for _, front := range [][]byte{{}, {7}, {0x80, 0, 5}} {
			at := len(front)
			begin := slices.Concat(front, ahead)
			n := len(begin)
			checkRead(t, []byte("ab"), begin, at, api.Entry{}, n, api.ErrVintShort)
			for _, c := range []struct {
				b     []byte
				place int
				err   api.Errno
			}{
				{[]byte{0x80}, 1, api.ErrVintShort},
				{repeat(0xff, 9), 9, api.ErrVintShort},
				{[]byte{0x80, 0}, 1, api.ErrVintForm},
				{[]byte{0x81, 0x80, 0, 1, 0}, 2, api.ErrVintForm},
				{repeat(0x80, 9, 0), 9, api.ErrVintForm},
				{repeat(0xff, 9, 2), 9, api.ErrVintLong},
				{repeat(0xff, 20), 9, api.ErrVintLong},
			} {
				checkRead(t, []byte("ab"), slices.Concat(begin, c.b), at, api.Entry{}, n+c.place, c.err)
				checkRead(t, nil, slices.Concat(begin, c.b), at, api.Entry{}, n+c.place, c.err)
			}
		}
	}
}

// K7, 2: more shared bytes than prev has, ahead of all that is said of lengths.
func TestReadSharedAbove(t *testing.T) {
	for _, prev := range []string{"", "a", "ab", strings.Repeat("a", 64), strings.Repeat("a", 100)} {
		for _, shared := range []uint64{uint64(len(prev)) + 1, uint64(len(prev)) + 2, 256, 1 << 32, 1 << 62, 1 << 63, math.MaxUint64} {
			for _, own := range []uint64{0, 1, 64, 65, 0 - shared, 2 - shared, math.MaxUint64} {
				for _, value := range []uint64{0, 1, 257, math.MaxUint64} {
					checkFault(t, prev, vint.Join(shared, own, value), 0, api.ErrPairShared)
				}
			}
			checkFault(t, prev, append(vint.Join(shared, 1, 0), 'z'), 0, api.ErrPairShared)
		}
	}
	checkRead(t, []byte("a"), []byte{7, 7, 2, 1, 0, 'b'}, 2, api.Entry{}, 2, api.ErrPairShared)
}

// K7, 2: keys and values that may not be, ahead of bytes that do not follow, and where these do.
func TestReadLong(t *testing.T) {
	prev := repeat('a', 100)
	for _, c := range []struct{ shared, own, value uint64 }{
		{0, 0, 0}, {0, 0, 1}, {0, 65, 0}, {0, 66, 256}, {1, 64, 0}, {2, 63, 0}, {63, 2, 0}, {64, 1, 0}, {64, 64, 0}, {65, 0, 0}, {100, 0, 0}, {100, 1, 0},
		{0, 1, 257}, {64, 0, 257}, {0, 64, 300}, {0, 1, 1 << 32}, {0, 1, 1 << 63}, {0, 1, math.MaxUint64},
		{0, 1 << 32, 0}, {0, 1<<32 + 1, 0}, {0, 1 << 63, 0}, {0, math.MaxUint64, 0},
		// Together they wrap round.
		{1, math.MaxUint64, 0}, {2, math.MaxUint64, 0}, {64, math.MaxUint64, 0}, {100, math.MaxUint64 - 98, 0}, {100, math.MaxUint64 - 99, 0}, {3, math.MaxUint64 - 1, math.MaxUint64},
		{0, math.MaxUint64, 2}, {0, 2, math.MaxUint64}, {0, 1, math.MaxUint64 - 1},
	} {
		for _, front := range [][]byte{nil, {5, 5, 5}} {
			for _, rest := range []int{0, 1, 1000} {
				b := slices.Concat(front, vint.Join(c.shared, c.own, c.value), repeat('b', rest))
				checkRead(t, prev, b, len(front), api.Entry{}, len(front), api.ErrLong)
			}
		}
	}
}

// K7, 2: the longest and the shortest that may be.
func TestReadBounds(t *testing.T) {
	for _, shared := range []int{0, 1, 2, 62, 63} {
		for _, own := range []int{1, 2, 63, 64} {
			for _, value := range []int{0, 1, 255, 256, 257} {
				prev, rest := repeat('a', shared), repeat('b', own)
				b := slices.Concat(vint.Join(uint64(shared), uint64(own), uint64(value)), rest, repeat('v', value))
				if shared+own > 64 || value > 256 {
					checkRead(t, prev, b, 0, api.Entry{}, 0, api.ErrLong)
					continue
				}
				checkRead(t, prev, b, 0, api.Entry{Key: slices.Concat(prev, rest), Value: repeat('v', value)}, len(b), api.OK)
			}
		}
	}
	// A prev that is longer than a key may be: a key that is above it within the first 64 bytes.
	checkRead(t, repeat('a', 100), []byte{63, 1, 0, 'b'}, 0, api.Entry{Key: repeat('a', 63, 'b')}, 4, api.OK)
	checkFault(t, strings.Repeat("a", 100), []byte{63, 1, 0, 'a'}, 0, api.ErrPairShared)
	checkFault(t, strings.Repeat("a", 100), []byte{64, 0, 0}, 0, api.ErrPairOrder)
	checkFault(t, strings.Repeat("a", 64)+"b", []byte{64, 0, 0}, 0, api.ErrPairOrder)
}

// K7, 3: one byte and more too few, of the key's and of the value's; ahead of what is said of the key.
func TestReadShort(t *testing.T) {
	for _, c := range []struct {
		prev string
		e    api.Entry
	}{{"", sized(64, 256)}, {"", sized(1, 0)}, {"", sized(1, 1)}, {"abc", entry("abx", "12")}, {"a", entry("b", "")}, {"abc", entry("abcd", "123")}} {
		for _, front := range [][]byte{nil, {9, 9}} {
			head := len(front) + len(spell([]byte(c.prev), c.e)) - len(c.e.Key) - len(c.e.Value) + common([]byte(c.prev), c.e.Key)
			whole := slices.Concat(front, spell([]byte(c.prev), c.e))
			for size := head; size < len(whole); size++ {
				checkRead(t, []byte(c.prev), whole[:size:size], len(front), api.Entry{}, size, api.ErrPairShort)
				checkRead(t, []byte(c.prev), whole[:size], len(front), api.Entry{}, size, api.ErrPairShort)
			}
			checkRead(t, []byte(c.prev), whole, len(front), c.e, len(whole), api.OK)
		}
	}
	// The key is there, and is wrong: its value is not.
	checkFault(t, "abc", []byte{2, 1, 2, 'c', '1'}, 5, api.ErrPairShort)
	checkFault(t, "b", []byte{0, 1, 1, 'a'}, 4, api.ErrPairShort)
	checkFault(t, "ab", []byte{1, 0, 1}, 3, api.ErrPairShort)
	checkFault(t, "ab", []byte{0, 1, 0}, 3, api.ErrPairShort)
}

// K7, 4: more in common than is told, also where the key does not rise.
func TestReadSharedMore(t *testing.T) {
	for _, c := range []struct {
		prev string
		b    []byte
	}{
		{"a", []byte{0, 2, 0, 'a', 'b'}},
		{"abc", []byte{0, 3, 0, 'a', 'b', 'x'}},
		{"abc", []byte{1, 2, 0, 'b', 'x'}},
		{"abc", []byte{2, 2, 1, 'c', 'd', '1'}},
		// These are not above prev either.
		{"abc", []byte{0, 3, 0, 'a', 'b', 'c'}},
		{"abc", []byte{2, 1, 0, 'c'}},
		{"abc", []byte{0, 1, 0, 'a'}},
		{"abc", []byte{0, 2, 0, 'a', 'a'}},
		{"\x00\x00", []byte{1, 1, 0, 0}},
		{"\xff", []byte{0, 1, 0, 255}},
	} {
		checkFault(t, c.prev, c.b, 0, api.ErrPairShared)
		front := append([]byte{3, 3, 3}, c.b...)
		checkRead(t, []byte(c.prev), append(front, 1, 2), 3, api.Entry{}, 3, api.ErrPairShared)
	}
	checkFault(t, strings.Repeat("a", 64), slices.Concat([]byte{0, 64, 0}, repeat('a', 64)), 0, api.ErrPairShared)
}

// K7, 4: a key that does not rise: below prev, the same, one that begins it.
func TestReadOrder(t *testing.T) {
	for _, c := range []struct {
		prev string
		b    []byte
	}{
		{"b", []byte{0, 1, 0, 'a'}},
		{"b", []byte{0, 2, 1, 'a', 'z', '1'}},
		{"abc", []byte{3, 0, 0}},
		{"abc", []byte{2, 0, 0}},
		{"abc", []byte{1, 0, 3, '1', '2', '3'}},
		{"abc", []byte{2, 1, 0, 'b'}},
		{"abc", []byte{2, 3, 0, 'b', 255, 255}},
		{"\xff", []byte{0, 1, 0, 254}},
		{"\x00", []byte{1, 0, 0}},
		{"\x80", []byte{0, 1, 0, 127}},
	} {
		checkFault(t, c.prev, c.b, 0, api.ErrPairOrder)
		front := append([]byte{3, 3, 3}, c.b...)
		checkRead(t, []byte(c.prev), append(front, 1, 2), 3, api.Entry{}, 3, api.ErrPairOrder)
	}
	checkFault(t, strings.Repeat("b", 64), []byte{64, 0, 0}, 0, api.ErrPairOrder)
}

// K7: entries, at the beginning and behind others, with something behind or nothing.
func TestRead(t *testing.T) {
	for _, c := range []struct {
		prev string
		b    string
		e    api.Entry
	}{
		{"", "\x00\x01\x00a", entry("a", "")},
		{"", "\x00\x01\x01\x00\x00", entry("\x00", "\x00")},
		{"", "\x00\x02\x02\xff\xff\xff\xff", entry("\xff\xff", "\xff\xff")},
		{"a", "\x01\x01\x00b", entry("ab", "")},
		{"a", "\x00\x01\x02b12", entry("b", "12")},
		{"abc", "\x02\x01\x02x12", entry("abx", "12")},
		{"ab", "\x02\x01\x02x12", entry("abx", "12")},
		{"abc", "\x03\x01\x00\x00", entry("abc\x00", "")},
		{"abc", "\x00\x03\x00bbc", entry("bbc", "")},
		{"\x7f", "\x00\x01\x00\x80", entry("\x80", "")},
	} {
		for _, front := range []string{"", "\x80", "\x00\x01\x00"} {
			for _, behind := range []string{"", "\x00", "\x80\x00", "abc\xff"} {
				end := len(front) + len(c.b)
				checkRead(t, []byte(c.prev), []byte(front+c.b+behind), len(front), c.e, end, api.OK)
			}
		}
	}
}

// K7: all rows of up to six of the bytes at which something turns, behind all sorts of texts, at each place.
func TestReadRows(t *testing.T) {
	prevs := [][]byte{nil, []byte("a"), []byte("aa"), []byte("ab"), []byte("b"), {0}, {1, 'a'}, {0x80}}
	rows := [][]byte{nil}
	for from := 0; from < len(rows) && len(rows[from]) < 6; from++ {
		for _, c := range []byte{0, 1, 2, 'a', 'b', 0x80} {
			rows = append(rows, append(slices.Clone(rows[from]), c))
		}
	}
	seen := map[api.Errno]int{}
	for _, b := range rows {
		for _, prev := range prevs {
			for at := -1; at <= 1; at++ {
				checkExpected(t, prev, b, at)
			}
			_, _, err := expected(prev, b, 0)
			seen[err]++
		}
		checkExpected(t, prevs[1], b, len(b))
		checkExpected(t, prevs[1], b, len(b)+1)
	}
	for _, err := range []api.Errno{api.OK, api.ErrLong, api.ErrPairOrder, api.ErrPairShared, api.ErrPairShort, api.ErrVintShort, api.ErrVintForm} {
		if seen[err] == 0 {
			t.Errorf("no row has the error %d", err)
		}
	}
}

// K7: an entry's bytes of which one is another, at each place, with each byte.
func TestReadTurned(t *testing.T) {
	for _, c := range []struct {
		prev string
		e    api.Entry
	}{{"abc", entry("abx", "12")}, {"", entry("ab", "")}, {"a", entry("b", "1")}, {"ab", entry("abc", "")}} {
		b := spell([]byte(c.prev), c.e)
		for at := range b {
			for x := range 256 {
				turned := slices.Clone(b)
				turned[at] = byte(x)
				checkExpected(t, []byte(c.prev), turned, 0)
				checkExpected(t, []byte(c.prev), append(turned, repeat('q', 400)...), 0)
			}
		}
	}
}

// K7: heads of all sorts of numbers.
func TestReadHeads(t *testing.T) {
	numbers := []uint64{0, 1, 2, 3, 63, 64, 65, 127, 128, 255, 256, 257, 1<<31 - 1, 1 << 31, 1 << 32, 1<<63 - 1, 1 << 63, math.MaxUint64 - 63, math.MaxUint64 - 1, math.MaxUint64}
	prevs := [][]byte{nil, []byte("a"), repeat('a', 63), repeat('a', 64), repeat('a', 300), repeat('c', 3)}
	for _, shared := range numbers {
		for _, own := range numbers {
			for _, value := range numbers {
				b := append(vint.Join(shared, own, value), repeat('b', 200)...)
				for _, prev := range prevs {
					checkExpected(t, prev, b, 0)
				}
				checkExpected(t, prevs[2], append(b, repeat('b', 200)...), 0)
			}
		}
	}
}

// P5.2: of two texts just one is so.
func TestOneOfThree(t *testing.T) {
	d := dice(52)
	l := texts(3)
	for range 40 {
		l = append(l, d.text(60+d.below(10)))
	}
	for _, a := range l {
		for _, b := range l {
			one, other := pair.Compare(a, b), pair.Compare(b, a)
			if one < -1 || one > 1 || one != -other || (one == 0) != bytes.Equal(a, b) {
				t.Errorf("%q, %q: %d, %d", a, b, one, other)
			}
		}
	}
}

// P5.2: what is below one that is below a third is below that.
func TestBelowBelow(t *testing.T) {
	l := append(texts(3), repeat('a', 64), repeat('a', 65), repeat('a', 64, 255), repeat(255, 64), repeat(255, 65))
	for _, a := range l {
		for _, b := range l {
			for _, c := range l {
				if pair.Compare(a, b) < 0 && pair.Compare(b, c) < 0 && pair.Compare(a, c) != -1 {
					t.Errorf("%q, %q, %q", a, b, c)
				}
			}
		}
	}
}

// behinds are what may stand behind an entry.
func behinds() [][]byte {
	return [][]byte{nil, {0}, {255}, {0x80, 0}, {0, 1, 0, 'a'}, repeat('b', 400)}
}

func checkThereAndBack(t *testing.T, prev []byte, e api.Entry) {
	t.Helper()
	b := pair.Bytes(prev, e)
	for _, behind := range behinds() {
		checkRead(t, prev, slices.Concat(b, behind), 0, e, len(b), api.OK)
		checkRead(t, prev, slices.Concat(behind, b), len(behind), e, len(behind)+len(b), api.OK)
	}
}

// P5.3: what Bytes writes Read reads, each text behind each that is below it, or none.
func TestThereAndBack(t *testing.T) {
	for _, key := range texts(3)[1:] {
		for _, value := range texts(2) {
			for _, prev := range texts(3) {
				if below(prev, key) {
					checkThereAndBack(t, prev, api.Entry{Key: key, Value: value})
				}
			}
		}
	}
	d, done := dice(53), 0
	for range 2000 {
		prev := d.text(d.below(80))
		e := api.Entry{Key: d.behind(prev, 1+d.below(64)), Value: d.text(d.below(257))}
		if len(prev) == 0 || below(prev, e.Key) {
			checkThereAndBack(t, prev, e)
			done++
		}
	}
	if done < 500 {
		t.Errorf("only %d", done)
	}
}

// P5.3: entries one behind the other, each behind the key ahead.
func TestThereAndBackMany(t *testing.T) {
	d := dice(54)
	var l []api.Entry
	for range 300 {
		l = append(l, api.Entry{Key: d.text(1 + d.below(64)), Value: d.text(d.below(257))})
	}
	slices.SortFunc(l, func(x, y api.Entry) int { return pair.Compare(x.Key, y.Key) })
	l = slices.CompactFunc(l, func(x, y api.Entry) bool { return bytes.Equal(x.Key, y.Key) })
	var b, prev []byte
	for _, e := range l {
		b, prev = append(b, pair.Bytes(prev, e)...), e.Key
	}
	at := 0
	prev = nil
	for i, e := range l {
		got, next, err := pair.Read(prev, b, at)
		if !same(got, e) || err != api.OK {
			t.Fatalf("the entry %d: %q, %d; want %q", i, got, err, e)
		}
		at, prev = next, got.Key
	}
	if at != len(b) {
		t.Errorf("read up to %d of %d", at, len(b))
	}
}

// P5.3: what Read reads has just the bytes that Bytes writes, and may be.
func TestReadOneWay(t *testing.T) {
	d, read := dice(55), 0
	for range 200000 {
		prev := []byte("ab")[:d.below(3)]
		b := make([]byte, 3+d.below(6))
		for i := range b {
			b[i] = []byte{0, 0, 1, 1, 2, 3, 'a', 'b', 'c', 128}[d.below(10)]
		}
		at := d.below(len(b) + 1)
		e, end, err := pair.Read(prev, b, at)
		if err != api.OK {
			continue
		}
		read++
		if !bytes.Equal(pair.Bytes(prev, e), b[at:end]) || pair.Check(e) != api.OK || !below(prev, e.Key) {
			t.Errorf("behind %q of % x at %d: %q", prev, b, at, e)
		}
	}
	if read < 1000 {
		t.Errorf("only %d", read)
	}
}

// roomy is a copy of a text with spare room behind it that is not 0.
func roomy(b []byte) []byte { return append(slices.Clone(b), repeat(0x77, 20)...)[:len(b)] }

// P3: what is handed in is not changed, nor its spare room.
func TestHandedIn(t *testing.T) {
	d := dice(31)
	l := append(texts(2), repeat('a', 63), repeat('a', 64), repeat(255, 64), repeat('a', 64, 255))
	for _, a := range l {
		for _, b := range append(l, spell(a, entry("abx", "12")), spell(a, sized(64, 256))) {
			x, y, z := roomy(a), roomy(b), roomy(d.text(5))
			list := append([]api.Entry{{Key: x, Value: y}, {Key: y, Value: z}}, entry("spare", "room"))[:2]
			pair.Key(x)
			pair.Value(x)
			pair.Check(list[0])
			pair.Compare(x, y)
			pair.Common(x, y)
			pair.Between(x, y)
			pair.After(x)
			pair.Sorted(list)
			pair.Bytes(x, list[1])
			for at := range len(y) + 1 {
				pair.Read(x, y, at)
			}
			for i, now := range [][]byte{x, y} {
				was := [][]byte{a, b}[i]
				if !bytes.Equal(now[:len(was)+20], append(slices.Clone(was), repeat(0x77, 20)...)) {
					t.Fatalf("%q became %q", was, now[:len(was)+20])
				}
			}
			if !same(list[0], api.Entry{Key: a, Value: b}) || !same(list[1], api.Entry{Key: b, Value: z}) || !same(list[:3][2], entry("spare", "room")) {
				t.Fatalf("the list became %q", list[:3])
			}
		}
	}
}

// scribble writes over a list and its spare room.
func scribble(b []byte) {
	b = b[:cap(b)]
	for i := range b {
		b[i] ^= 0x5a
	}
}

// P3: what comes out is new memory, its spare room too; and it stays when what was handed in is written over.
func TestComesOutNew(t *testing.T) {
	calls := []func(a, b []byte) [][]byte{
		func(a, b []byte) [][]byte { s, _ := pair.Between(a, b); return [][]byte{s} },
		func(a, b []byte) [][]byte { s, _ := pair.After(a); return [][]byte{s} },
		func(a, b []byte) [][]byte { return [][]byte{pair.Bytes(a, api.Entry{Key: b, Value: a})} },
		func(a, b []byte) [][]byte { return [][]byte{pair.Bytes(b, api.Entry{Key: b})} },
		func(a, b []byte) [][]byte { e, _, _ := pair.Read(a, b, 0); return [][]byte{e.Key, e.Value} },
		func(a, b []byte) [][]byte { e, _, _ := pair.Read(nil, b, 0); return [][]byte{e.Key, e.Value} },
	}
	rows := [][]byte{spell([]byte("abc"), entry("abx", "12")), spell([]byte("abc"), entry("abcd", "")), spell(nil, entry("b", "1")), spell(nil, sized(64, 256)), []byte("abx")}
	for n, call := range calls {
		for _, first := range [][]byte{nil, []byte("abc"), repeat('a', 63), repeat('a', 64), repeat('a', 70)} {
			for _, second := range rows {
				a, b := roomy(first), roomy(second)
				out := call(a, b)
				var kept [][]byte
				for _, s := range out {
					kept = append(kept, slices.Clone(s))
				}
				scribble(a)
				scribble(b)
				for i, s := range out {
					if !bytes.Equal(s, kept[i]) {
						t.Errorf("call %d of %q, %q: %q became %q", n, first, second, kept[i], s)
					}
				}
				scribble(a)
				scribble(b)
				scribble(out[0])
				if len(out) > 1 && !bytes.Equal(out[1], kept[1]) {
					t.Errorf("call %d of %q, %q: the value lies where the key does", n, first, second)
				}
				for _, s := range out[1:] {
					scribble(s)
				}
				if !bytes.Equal(a[:len(first)+20], append(slices.Clone(first), repeat(0x77, 20)...)) || !bytes.Equal(b[:len(second)+20], append(slices.Clone(second), repeat(0x77, 20)...)) {
					t.Errorf("call %d of %q, %q: its answer lies where these do", n, first, second)
				}
				if again := call(a, b); !slices.EqualFunc(again, kept, bytes.Equal) {
					t.Errorf("call %d of %q, %q: %q, then %q", n, first, second, kept, again)
				}
			}
		}
	}
}

// P3: with the value empty its spare room is none of the key's or of what was read.
func TestEmptyValue(t *testing.T) {
	b := []byte{0, 1, 0, 'a', 0x11, 0x22, 0x33}
	e, end, err := pair.Read(nil, b, 0)
	scribble(e.Value)
	if !same(e, entry("a", "")) || end != 4 || err != api.OK || !bytes.Equal(b, []byte{0, 1, 0, 'a', 0x11, 0x22, 0x33}) {
		t.Errorf("%q, %d, %d; % x", e, end, err, b)
	}
}
