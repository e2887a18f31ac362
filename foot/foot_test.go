package foot_test

import (
	"bytes"
	"math"
	"runtime"
	"slices"
	"strings"
	"testing"

	"coppice/api"
	"coppice/block"
	"coppice/foot"
	"coppice/vint"
)

// dice are numbers below a bound, the same ones at each run.
type dice uint64

func (d *dice) below(n int) int {
	x := uint64(*d)*6364136223846793005 + 1442695040888963407
	*d = dice(x)
	return int((x >> 33) % uint64(n))
}

// pick is one of some numbers.
func (d *dice) pick(l ...int) int { return l[d.below(len(l))] }

// text are so many bytes of a few kinds, so that texts often have much in common.
func (d *dice) text(size int) []byte {
	b := make([]byte, size)
	for i := range b {
		b[i] = []byte{0, 0, 'a', 'a', 'a', 'b', 255, 255}[d.below(8)]
	}
	return b
}

// keys are so many that rise.
func (d *dice) keys(count int) [][]byte {
	var l [][]byte
	for len(l) < count {
		k := d.text(1 + d.below(64))
		if at, is := slices.BinarySearchFunc(l, k, bytes.Compare); !is {
			l = slices.Insert(l, at, k)
		}
	}
	return l
}

// rows are so many that may be.
func (d *dice) rows(count int) []api.Span {
	var l []api.Span
	at := 8
	for _, k := range d.keys(count) {
		s := api.Span{Last: k, At: at, Len: d.pick(1, 2, 127, 128, 16384, 131071, 131072, 1+d.below(131072)), Entries: 1 + d.below(64)}
		l = append(l, s)
		at += s.Len
	}
	return l
}

func repeat(c byte, count int, rest ...byte) []byte {
	return append(bytes.Repeat([]byte{c}, count), rest...)
}

func span(last string, at, size, entries int) api.Span {
	return api.Span{Last: []byte(last), At: at, Len: size, Entries: entries}
}

// two are the rows of the chapter's examples.
func two() []api.Span { return []api.Span{span("ab", 8, 20, 2), span("c", 28, 15, 1)} }

// four are rows with keys of the least and the greatest length.
func four() []api.Span {
	return []api.Span{
		span("a", 8, 1, 1),
		span("a"+strings.Repeat("b", 63), 9, 131072, 64),
		span("ac", 131081, 300, 63),
		span("ac\x00", 131381, 131072, 2),
	}
}

func same(x, y api.Span) bool {
	return bytes.Equal(x.Last, y.Last) && x.At == y.At && x.Len == y.Len && x.Entries == y.Entries
}

func sameList(x, y []api.Span) bool { return slices.EqualFunc(x, y, same) }

// copied is a list in memory of its own.
func copied(l []api.Span) []api.Span {
	c := slices.Clone(l)
	for i := range c {
		c[i].Last = bytes.Clone(c[i].Last)
	}
	return c
}

// turned is a list with the row of that number turned.
func turned(l []api.Span, n int, turn func(s *api.Span)) []api.Span {
	c := copied(l)
	turn(&c[n])
	return c
}

// sum is how many entries rows have.
func sum(l []api.Span) int {
	n := 0
	for _, s := range l {
		n += s.Entries
	}
	return n
}

// number are a number's bytes.
func number(n uint64) []byte {
	var b []byte
	for n >= 128 {
		b = append(b, byte(n%128)+128)
		n /= 128
	}
	return append(b, byte(n))
}

// written is the foot of rows, told by the chapter's words, whether they may be or not.
func written(l []api.Span) []byte {
	b := number(uint64(len(l)))
	for _, s := range l {
		b = append(b, slices.Concat(number(uint64(len(s.Last))), s.Last, number(uint64(s.At)), number(uint64(s.Len)), number(uint64(s.Entries)))...)
	}
	return append(b, number(uint64(sum(l)))...)
}

// checked is what Check must tell of rows.
func checked(l []api.Span) (int, api.Errno) {
	if len(l) > 8388608 {
		return 0, api.ErrFootMany
	}
	for i, s := range l {
		at := 8
		if i > 0 {
			at = l[i-1].At + l[i-1].Len
		}
		switch {
		case len(s.Last) < 1 || len(s.Last) > 64, i > 0 && bytes.Compare(l[i-1].Last, s.Last) >= 0:
			return i, api.ErrFootKey
		case s.At != at:
			return i, api.ErrFootPlace
		case s.Len < 1 || s.Len > 131072:
			return i, api.ErrFootLen
		case s.Entries < 1 || s.Entries > 64:
			return i, api.ErrFootCount
		}
	}
	return 0, api.OK
}

// told is what Read must tell of bytes: the chapter's words, one behind the other.
func told(b []byte) ([]api.Span, api.Errno, int) {
	count, at, err := vint.Read(b, 0)
	if err != api.OK {
		return nil, err, at
	}
	if count > 8388608 {
		return nil, api.ErrFootMany, 0
	}
	l := []api.Span{}
	next, total := uint64(8), uint64(0)
	for i := 0; i < int(count); i++ {
		begin := at
		size, key, err := vint.Read(b, at)
		if err != api.OK {
			return nil, err, key
		}
		if size == 0 || size > 64 {
			return nil, api.ErrFootKey, begin
		}
		if key+int(size) > len(b) {
			return nil, api.ErrFootShort, len(b)
		}
		s := api.Span{Last: b[key : key+int(size)]}
		if i > 0 && bytes.Compare(l[i-1].Last, s.Last) >= 0 {
			return nil, api.ErrFootKey, begin
		}
		place, length, err := vint.Read(b, key+int(size))
		if err != api.OK {
			return nil, err, length
		}
		if place != next {
			return nil, api.ErrFootPlace, key + int(size)
		}
		long, entries, err := vint.Read(b, length)
		if err != api.OK {
			return nil, err, entries
		}
		if long == 0 || long > 131072 {
			return nil, api.ErrFootLen, length
		}
		many, behind, err := vint.Read(b, entries)
		if err != api.OK {
			return nil, err, behind
		}
		if many == 0 || many > 64 {
			return nil, api.ErrFootCount, entries
		}
		s.At, s.Len, s.Entries = int(place), int(long), int(many)
		l = append(l, s)
		next, total, at = place+long, total+many, behind
	}
	last, behind, err := vint.Read(b, at)
	if err != api.OK {
		return nil, err, behind
	}
	if last != total {
		return nil, api.ErrFootTotal, at
	}
	if behind < len(b) {
		return nil, api.ErrFootRest, behind
	}
	return l, api.OK, 0
}

func made(t *testing.T, l []api.Span) []byte {
	t.Helper()
	b, err, n := foot.Bytes(l)
	if err != api.OK || n != 0 {
		t.Fatalf("Bytes of %v: %d, %d", l, err, n)
	}
	return b
}

// checkWrong holds Check and Bytes of rows that may not be against an error and the number of a row.
func checkWrong(t *testing.T, l []api.Span, n int, err api.Errno) {
	t.Helper()
	if gotN, gotErr := foot.Check(l); gotN != n || gotErr != err {
		t.Errorf("Check of %v: %d, %d; want %d, %d", l, gotN, gotErr, n, err)
	}
	if b, gotErr, gotN := foot.Bytes(l); len(b) != 0 || gotN != n || gotErr != err {
		t.Errorf("Bytes of %v: % x, %d, %d; want %d, %d", l, b, gotErr, gotN, err, n)
	}
	foot.Total(l)
	for _, k := range [][]byte{nil, []byte("b"), repeat(255, 65)} {
		foot.Find(l, k)
	}
}

// checkRight holds Check, Bytes and Read of rows that may be against the chapter's words (I1 to I3, P7.2).
func checkRight(t *testing.T, l []api.Span) {
	t.Helper()
	if n, err := foot.Check(l); n != 0 || err != api.OK {
		t.Fatalf("Check of %v: %d, %d", l, n, err)
	}
	b := made(t, l)
	if !bytes.Equal(b, written(l)) {
		t.Fatalf("Bytes of %v: % x", l, b)
	}
	if got, err, at := foot.Read(b); !sameList(got, l) || err != api.OK || at != 0 {
		t.Fatalf("Read of %v: %v, %d, %d", l, got, err, at)
	}
	if got := foot.Total(l); got != sum(l) {
		t.Fatalf("Total of %v: %d", l, got)
	}
}

func checkFault(t *testing.T, b []byte, err api.Errno, at int) {
	t.Helper()
	if l, gotErr, gotAt := foot.Read(b); len(l) != 0 || gotErr != err || gotAt != at {
		t.Errorf("Read of % x: %v, %d, %d; want %d, %d", b, l, gotErr, gotAt, err, at)
	}
}

// hold holds Read of any bytes against the chapter's words, and what it reads against Bytes; it tells whether they are a foot.
func hold(t *testing.T, b []byte) bool {
	t.Helper()
	l, err, at := told(b)
	got, gotErr, gotAt := foot.Read(b)
	if !sameList(got, l) || gotErr != err || gotAt != at {
		t.Fatalf("Read of % x: %v, %d, %d; want %v, %d, %d", b, got, gotErr, gotAt, l, err, at)
	}
	if err != api.OK {
		return false
	}
	if again := made(t, got); !bytes.Equal(again, b) {
		t.Fatalf("% x was read, and made as % x", b, again)
	}
	return true
}

// The rows of the chapter's table of examples.
func TestExamples(t *testing.T) {
	that := []byte{2, 2, 0x61, 0x62, 8, 0x14, 2, 1, 0x63, 0x1c, 0x0f, 1, 3}
	if b := made(t, two()); !bytes.Equal(b, that) {
		t.Errorf("% x", b)
	}
	if l, err, at := foot.Read(that); !sameList(l, two()) || err != api.OK || at != 0 {
		t.Errorf("%v, %d, %d", l, err, at)
	}
	checkFault(t, slices.Concat(that[:12], []byte{4}), api.ErrFootTotal, 12)
	checkFault(t, slices.Concat(that, []byte{0}), api.ErrFootRest, 13)
	if b := made(t, nil); !bytes.Equal(b, []byte{0, 0}) {
		t.Errorf("% x", b)
	}
	if l, err, at := foot.Read([]byte{0, 0}); len(l) != 0 || err != api.OK || at != 0 {
		t.Errorf("%v, %d, %d", l, err, at)
	}
	checkFault(t, []byte{0}, api.ErrVintShort, 1)
	checkWrong(t, []api.Span{span("ab", 9, 20, 2)}, 0, api.ErrFootPlace)
	checkWrong(t, turned(two(), 1, func(s *api.Span) { s.At = 29 }), 1, api.ErrFootPlace)
	for i, k := range []string{"a", "ab", "b", "c", "d"} {
		if n := foot.Find(two(), []byte(k)); n != []int{0, 0, 1, 1, 2}[i] {
			t.Errorf("Find of %q: %d", k, n)
		}
	}
}

// I1 to I3 and P7.2: no rows, one, several; the least and the greatest key, frame and block.
func TestRowsThatMayBe(t *testing.T) {
	checkRight(t, nil)
	checkRight(t, []api.Span{})
	checkRight(t, two())
	checkRight(t, four())
	for _, key := range []int{1, 2, 63, 64} {
		for _, size := range []int{1, 2, 127, 128, 16383, 16384, 131071, 131072} {
			for _, entries := range []int{1, 2, 63, 64} {
				last := repeat(0, key)
				checkRight(t, []api.Span{{Last: last, At: 8, Len: size, Entries: entries}})
				checkRight(t, []api.Span{
					{Last: last, At: 8, Len: size, Entries: entries},
					{Last: repeat(255, key), At: 8 + size, Len: size, Entries: entries},
				})
			}
		}
	}
	d := dice(7)
	for count := range 200 {
		checkRight(t, d.rows(count))
	}
}

// I1 to I3 and P7.2: so many rows that their number, their places and their total have several bytes.
func TestManyRows(t *testing.T) {
	var l []api.Span
	for i := range 20000 {
		l = append(l, api.Span{Last: []byte{byte(i >> 8), byte(i)}, At: 8 + i*131072, Len: 131072, Entries: 64})
	}
	checkRight(t, l)
	if n := foot.Find(l, []byte{1, 0}); n != 256 {
		t.Error(n)
	}
	l[19999].At--
	checkWrong(t, l, 19999, api.ErrFootPlace)
}

// I1, I2: too many rows are told ahead of all that is wrong with them.
func TestTooMany(t *testing.T) {
	l := make([]api.Span, 8388609)
	checkN := func(size, n int, err api.Errno) {
		t.Helper()
		if gotN, gotErr := foot.Check(l[:size]); gotN != n || gotErr != err {
			t.Errorf("Check of %d: %d, %d", size, gotN, gotErr)
		}
		if b, gotErr, gotN := foot.Bytes(l[:size]); len(b) != 0 || gotN != n || gotErr != err {
			t.Errorf("Bytes of %d: %d, %d", size, gotErr, gotN)
		}
	}
	checkN(8388609, 0, api.ErrFootMany)
	checkN(8388608, 0, api.ErrFootKey)
	l[0], l[1] = span("a", 8, 1, 1), span("b", 9, 1, 0)
	checkN(8388608, 1, api.ErrFootCount)
	checkN(8388609, 0, api.ErrFootMany)
}

// I1, I2: a Last that is no key, or not above the one ahead, told ahead of all else of its row.
func TestCheckKey(t *testing.T) {
	all := func(s *api.Span) { s.At, s.Len, s.Entries = -1, 0, 0 }
	for n := range 4 {
		wrong := [][]byte{nil, {}, repeat('z', 65), repeat('z', 5000)}
		if n > 0 {
			ahead := four()[n-1].Last
			lower := bytes.Clone(ahead)
			lower[len(lower)-1]--
			wrong = append(wrong, ahead, ahead[:len(ahead)-1], lower, []byte{0}, append([]byte("A"), repeat(255, 63)...))
		}
		for _, key := range wrong {
			l := turned(four(), n, func(s *api.Span) { s.Last = key })
			checkWrong(t, l, n, api.ErrFootKey)
			all(&l[n])
			checkWrong(t, l, n, api.ErrFootKey)
		}
	}
	checkRight(t, turned(two(), 1, func(s *api.Span) { s.Last = []byte("ab\x00") }))
	checkRight(t, turned(two(), 0, func(s *api.Span) { s.Last = []byte{0} }))
	checkRight(t, turned(two(), 1, func(s *api.Span) { s.Last = repeat(255, 64) }))
}

// I1, I2: an At, a Len, an Entries that may not be; of each row the first of them, of all rows the first one.
func TestCheckNumbers(t *testing.T) {
	bad := []struct {
		turn func(s *api.Span, n int)
		err  api.Errno
		some []int
	}{
		{func(s *api.Span, n int) { s.At += n }, api.ErrFootPlace, []int{1, -1, 8, 256, 1 << 32, -1 << 63, math.MaxInt - 200000}},
		{func(s *api.Span, n int) { s.Len = n }, api.ErrFootLen, []int{0, -1, 131073, 131074, 1 << 20, 1<<32 + 1, 1 << 62, math.MinInt, math.MaxInt}},
		{func(s *api.Span, n int) { s.Entries = n }, api.ErrFootCount, []int{0, -1, 65, 66, 256, 257, 1<<32 + 1, math.MinInt, math.MaxInt}},
	}
	for n := range 4 {
		for i, b := range bad {
			for _, some := range b.some {
				l := turned(four(), n, func(s *api.Span) { b.turn(s, some) })
				checkWrong(t, l, n, b.err)
				for _, later := range bad[i+1:] {
					later.turn(&l[n], later.some[0])
				}
				checkWrong(t, l, n, b.err)
				if n < 3 {
					l[n+1] = api.Span{}
					checkWrong(t, l, n, b.err)
				}
			}
		}
	}
	for _, at := range []int{0, 7, 9, -8, 16} {
		checkWrong(t, []api.Span{span("a", at, 1, 1)}, 0, api.ErrFootPlace)
	}
	checkWrong(t, turned(two(), 1, func(s *api.Span) { s.At = 8 }), 1, api.ErrFootPlace)
	checkWrong(t, turned(two(), 1, func(s *api.Span) { s.At = 20 }), 1, api.ErrFootPlace)
	checkWrong(t, turned(two(), 0, func(s *api.Span) { s.Len = 21 }), 1, api.ErrFootPlace)
}

// I1, I2: any rows.
func TestAnyRows(t *testing.T) {
	d := dice(71)
	right := 0
	for range 40000 {
		l := d.rows(d.below(4))
		for range d.below(3) {
			if len(l) == 0 {
				break
			}
			s := &l[d.below(len(l))]
			switch d.below(4) {
			case 0:
				s.Last = d.text(d.pick(0, 1, 2, 63, 64, 65))
			case 1:
				s.At += d.pick(-1, 0, 1, math.MaxInt)
			case 2:
				s.Len = d.pick(-1, 0, 1, 131072, 131073, math.MinInt, math.MaxInt)
			case 3:
				s.Entries = d.pick(-1, 0, 1, 64, 65, math.MinInt, math.MaxInt)
			}
		}
		if n, err := checked(l); err != api.OK {
			checkWrong(t, l, n, err)
		} else {
			checkRight(t, l)
			right++
		}
	}
	if right < 1000 {
		t.Errorf("%d right ones alone", right)
	}
}

// I3: nothing; the number of rows cut, not in its one form, too long, and such as may not be.
func TestReadMany(t *testing.T) {
	checkFault(t, nil, api.ErrVintShort, 0)
	checkFault(t, []byte{}, api.ErrVintShort, 0)
	rest := written(two())[1:]
	for _, c := range []struct {
		count []byte
		err   api.Errno
		at    int
	}{
		{vint.Bytes(8388609), api.ErrFootMany, 0}, {vint.Bytes(1 << 24), api.ErrFootMany, 0}, {vint.Bytes(1 << 32), api.ErrFootMany, 0},
		{vint.Bytes(1<<32 + 2), api.ErrFootMany, 0}, {vint.Bytes(1<<63 + 2), api.ErrFootMany, 0}, {vint.Bytes(1<<64 - 1), api.ErrFootMany, 0},
		{[]byte{128, 0}, api.ErrVintForm, 1}, {[]byte{130, 0}, api.ErrVintForm, 1}, {[]byte{129, 128, 0}, api.ErrVintForm, 2},
		{repeat(255, 9, 2), api.ErrVintLong, 9}, {repeat(129, 10), api.ErrVintLong, 9},
	} {
		for _, b := range [][]byte{c.count, slices.Concat(c.count, rest), slices.Concat(c.count, repeat(0, 300))} {
			checkFault(t, b, c.err, c.at)
		}
	}
	for size := range 10 {
		checkFault(t, repeat(129, size), api.ErrVintShort, size)
	}
	for _, count := range []uint64{1, 2, 127, 128, 8388607, 8388608} {
		b := vint.Bytes(count)
		checkFault(t, b, api.ErrVintShort, len(b))
	}
	// The total is taken for a key's length then.
	checkFault(t, slices.Concat(vint.Bytes(8388608), rest), api.ErrFootShort, 4+12)
	checkFault(t, slices.Concat([]byte{3}, rest), api.ErrFootShort, 13)
	checkFault(t, slices.Concat([]byte{1}, rest), api.ErrFootTotal, 7)
	checkFault(t, slices.Concat([]byte{0}, rest), api.ErrFootTotal, 1)
}

// parts are a row's own: the bytes of its key's length, its key, its three numbers.
type parts [5][]byte

func partsOf(s api.Span) parts {
	return parts{vint.Bytes(uint64(len(s.Last))), s.Last, vint.Bytes(uint64(s.At)), vint.Bytes(uint64(s.Len)), vint.Bytes(uint64(s.Entries))}
}

// laid is the foot of four with one part of a row turned into some bytes; where the row begins, and where the part does.
func laid(row, part int, by []byte) (b []byte, begin, at int) {
	b = []byte{4}
	for i, s := range four() {
		p := partsOf(s)
		if i == row {
			begin = len(b)
			at = begin + len(slices.Concat(p[:part]...))
			p[part] = by
		}
		b = append(b, slices.Concat(p[:]...)...)
	}
	return append(b, vint.Bytes(130)...), begin, at
}

// forms are numbers that vint does not read, each with its error and where it shows.
func forms() []struct {
	bytes []byte
	err   api.Errno
	at    int
} {
	return []struct {
		bytes []byte
		err   api.Errno
		at    int
	}{
		{[]byte{128, 0}, api.ErrVintForm, 1}, {[]byte{136, 0}, api.ErrVintForm, 1}, {[]byte{129, 130, 0}, api.ErrVintForm, 2},
		{repeat(255, 9, 2), api.ErrVintLong, 9}, {repeat(128, 10), api.ErrVintLong, 9},
	}
}

// I3: each number of each row, not in its one form or cut.
func TestReadNumbers(t *testing.T) {
	for row := range 4 {
		for _, part := range []int{0, 2, 3, 4} {
			for _, f := range forms() {
				b, _, at := laid(row, part, f.bytes)
				checkFault(t, b, f.err, at+f.at)
				checkFault(t, b[:at+f.at], api.ErrVintShort, at+f.at)
			}
			b, _, at := laid(row, part, nil)
			checkFault(t, b[:at], api.ErrVintShort, at)
		}
	}
	for _, f := range forms() {
		b := written(four())
		at := len(b) - 2
		checkFault(t, slices.Concat(b[:at], f.bytes), f.err, at+f.at)
		checkFault(t, slices.Concat(b[:at], f.bytes, []byte{7, 7}), f.err, at+f.at)
		checkFault(t, b[:at], api.ErrVintShort, at)
		checkFault(t, b[:at+1], api.ErrVintShort, at+1)
	}
}

// I3: a key's length that may not be is told ahead of bytes that do not all follow.
func TestReadKeyLength(t *testing.T) {
	for row := range 4 {
		for _, size := range []uint64{0, 65, 66, 127, 128, 256, 257, 1<<32 + 1, 1 << 63, 1<<63 + 1, 1<<64 - 1} {
			by := vint.Bytes(size)
			b, begin, _ := laid(row, 0, by)
			checkFault(t, b, api.ErrFootKey, begin)
			checkFault(t, slices.Concat(b, repeat('z', 400)), api.ErrFootKey, begin)
			checkFault(t, b[:begin+len(by)], api.ErrFootKey, begin)
		}
	}
}

// I3: a key that is cut is told ahead of one that is not above the one ahead.
func TestReadKeyShort(t *testing.T) {
	for row := range 4 {
		for _, size := range []int{1, 2, 63, 64} {
			for have := range size {
				b, begin, _ := laid(row, 0, []byte{byte(size)})
				b = slices.Concat(b[:begin+1], repeat(0, have))
				checkFault(t, b, api.ErrFootShort, len(b))
			}
		}
	}
}

// I3: a key that is not above the one ahead, whatever stands behind it.
func TestReadKeyOrder(t *testing.T) {
	for row := 1; row < 4; row++ {
		ahead := four()[row-1].Last
		for _, key := range [][]byte{ahead, ahead[:1], {0}, repeat(0, 64), append([]byte("A"), repeat(255, 63)...)} {
			for _, rest := range [][]byte{nil, {128, 0}, {0, 0, 0}, repeat(255, 30), written(four())} {
				b, begin, _ := laid(row, 0, nil)
				b = slices.Concat(b[:begin], []byte{byte(len(key))}, key, rest)
				checkFault(t, b, api.ErrFootKey, begin)
			}
		}
	}
	for _, key := range [][]byte{{0}, repeat(0, 64), repeat(255, 64)} {
		checkRight(t, []api.Span{{Last: key, At: 8, Len: 1, Entries: 1}})
	}
}

// I3: an At, a Len, an Entries that may not be, whatever stands behind it.
func TestReadRowNumbers(t *testing.T) {
	for row := range 4 {
		right := four()[row].At
		for _, c := range []struct {
			part  int
			err   api.Errno
			wrong []uint64
		}{
			{2, api.ErrFootPlace, []uint64{0, 7, uint64(right) - 1, uint64(right) + 1, uint64(right) + 1<<32, uint64(right) + 1<<63, 1<<64 - 1}},
			{3, api.ErrFootLen, []uint64{0, 131073, 131074, 1 << 18, 1 << 32, 1<<32 + 1, 1<<63 + 1, 1<<64 - 1}},
			{4, api.ErrFootCount, []uint64{0, 65, 66, 127, 128, 257, 1<<32 + 1, 1<<63 + 1, 1<<64 - 1}},
		} {
			for _, n := range c.wrong {
				by := vint.Bytes(n)
				b, _, at := laid(row, c.part, by)
				checkFault(t, b, c.err, at)
				checkFault(t, b[:at+len(by)], c.err, at)
				checkFault(t, slices.Concat(b[:at+len(by)], repeat(255, 30)), c.err, at)
			}
		}
	}
}

// I3: a last number that is another one; it is told ahead of a rest.
func TestReadTotal(t *testing.T) {
	for _, l := range [][]api.Span{nil, two(), four()} {
		b := written(l)
		right := uint64(sum(l))
		at := len(b) - len(vint.Bytes(right))
		for _, n := range []uint64{0, 1, right - 1, right + 1, right + 128, right + 256, right + 1<<32, right + 1<<63, 1<<64 - 1} {
			if n == right {
				continue
			}
			w := slices.Concat(b[:at], vint.Bytes(n))
			checkFault(t, w, api.ErrFootTotal, at)
			checkFault(t, append(w, 0), api.ErrFootTotal, at)
		}
	}
}

// I3: something behind the last number.
func TestReadRest(t *testing.T) {
	for _, l := range [][]api.Span{nil, two(), four()} {
		b := written(l)
		for _, rest := range [][]byte{{0}, {128}, {1, 2, 3}, repeat(255, 30), b} {
			checkFault(t, slices.Concat(b, rest), api.ErrFootRest, len(b))
		}
	}
}

// I3, P7.2: feet in which any byte is any other one, is gone or stands twice; and every beginning of them.
func TestEveryByte(t *testing.T) {
	d := dice(77)
	for _, l := range [][]api.Span{nil, two(), four(), d.rows(1), d.rows(3)} {
		b := written(l)
		if !hold(t, b) {
			t.Fatalf("% x", b)
		}
		for at := range b {
			for c := range 256 {
				w := slices.Clone(b)
				w[at] = byte(c)
				hold(t, w)
				hold(t, slices.Insert(slices.Clone(b), at, byte(c)))
			}
			hold(t, slices.Delete(slices.Clone(b), at, at+1))
			if hold(t, b[:at]) {
				t.Fatalf("% x is a foot", b[:at])
			}
		}
	}
}

// I3, P7.2, P1: any bytes, such as look like a foot among them.
func TestAnyBytes(t *testing.T) {
	d := dice(78)
	feet := 0
	for range 60000 {
		b := []byte{byte(d.below(4))}
		at := 8
		for range d.below(4) {
			size := 1 + d.below(3)
			long := d.pick(0, 1, 2, 100)
			b = append(b, byte(size))
			b = append(b, d.text(size)...)
			b = append(b, byte(at+d.pick(0, 0, 0, 0, 1)), byte(long), byte(d.pick(0, 1, 1, 1, 1, 64, 65)))
			at += long
		}
		b = append(b, byte(d.below(5)))
		if d.below(4) == 0 {
			b = b[:d.below(len(b)+1)]
		}
		if hold(t, b) {
			feet++
		}
	}
	if feet < 500 {
		t.Errorf("%d feet alone", feet)
	}
	for range 20000 {
		b := make([]byte, d.below(40))
		for i := range b {
			b[i] = byte(d.below(1 << (1 + d.below(8))))
		}
		hold(t, b)
	}
}

// I3: rows that a few bytes claim cost nothing.
func TestReadClaims(t *testing.T) {
	var ahead, behind runtime.MemStats
	runtime.ReadMemStats(&ahead)
	for range 10 {
		checkFault(t, vint.Bytes(8388608), api.ErrVintShort, 4)
	}
	runtime.ReadMemStats(&behind)
	if cost := behind.TotalAlloc - ahead.TotalAlloc; cost > 1<<20 {
		t.Errorf("%d bytes of memory", cost)
	}
}

// near are keys at, ahead of, behind and within those of rows, and such as may not be.
func near(l []api.Span) [][]byte {
	keys := [][]byte{nil, {}, {0}, {255}, repeat(255, 64), repeat(0, 65), repeat(255, 300)}
	for _, s := range l {
		k := s.Last
		lower, higher := bytes.Clone(k), bytes.Clone(k)
		lower[len(k)-1]--
		higher[len(k)-1]++
		keys = append(keys, k, k[:len(k)-1], append(bytes.Clone(k), 0), append(bytes.Clone(k), 255), lower, higher)
	}
	return keys
}

// I4: Find is the number of the first row whose Last is not below the key.
func TestFind(t *testing.T) {
	d := dice(70)
	for count := range 100 {
		for _, l := range [][]api.Span{d.rows(count), d.rows(count)} {
			for _, k := range near(l) {
				want := 0
				for want < count && bytes.Compare(l[want].Last, k) < 0 {
					want++
				}
				if got := foot.Find(l, k); got != want {
					t.Fatalf("Find of %q: %d, want %d", k, got, want)
				}
			}
		}
	}
}

// I4: Total of none and of several.
func TestTotal(t *testing.T) {
	for _, c := range []struct {
		l    []api.Span
		want int
	}{{nil, 0}, {[]api.Span{}, 0}, {two(), 3}, {two()[:1], 2}, {four(), 130}} {
		if got := foot.Total(c.l); got != c.want {
			t.Errorf("%v: %d", c.l, got)
		}
	}
}

// I4, P1: rows that may not be have some answer.
func TestFindAndTotalOfAny(t *testing.T) {
	worst := []api.Span{{Entries: math.MaxInt, Len: math.MaxInt}, {Last: repeat(9, 70), Entries: math.MaxInt}, {Last: []byte("b")}, {Last: []byte("a"), Entries: -4}}
	for _, l := range [][]api.Span{worst, worst[:1], make([]api.Span, 9), {four()[3], four()[0], four()[0]}} {
		for _, k := range append(near(two()), near(four())...) {
			if n, again := foot.Find(l, k), foot.Find(l, k); n != again {
				t.Errorf("%d, then %d", n, again)
			}
		}
		if foot.Total(l) != foot.Total(l) {
			t.Error("two totals")
		}
	}
}

// P7.3: a key that stands in some block stands in that of Find.
func TestTheOneBlock(t *testing.T) {
	d := dice(73)
	for range 60 {
		keys := d.keys(1 + d.below(90))
		var l []api.Span
		var blocks [][]byte
		for at, left := 8, keys; len(left) > 0; {
			x := block.New()
			for range min(len(left), 1+d.below(9)) {
				x.Add(api.Entry{Key: left[0], Value: left[0]})
				left = left[1:]
			}
			s := api.Span{Last: x.Last(), At: at, Len: x.Size(), Entries: x.Len()}
			l, blocks, at = append(l, s), append(blocks, x.Bytes()), at+s.Len
		}
		checkRight(t, l)
		if foot.Total(l) != len(keys) {
			t.Fatalf("%d entries of %d", foot.Total(l), len(keys))
		}
		for _, k := range keys {
			n := foot.Find(l, k)
			if n >= len(blocks) {
				t.Fatalf("Find of %q: %d", k, n)
			}
			if value, is, err := block.Find(blocks[n], k); !is || !bytes.Equal(value, k) || err != api.OK {
				t.Fatalf("%q is not in block %d", k, n)
			}
		}
	}
}

// roomy is a text with spare room that is written full.
func roomy(b []byte) []byte {
	full := append(slices.Clone(b), repeat(0x77, 20)...)
	return full[:len(b)]
}

// stays: is what roomy made as it was, with its spare room?
func stays(now, was []byte) bool {
	return bytes.Equal(now[:len(was)+20], append(slices.Clone(was), repeat(0x77, 20)...))
}

// scribble writes over a list and its spare room.
func scribble(b []byte) {
	b = b[:cap(b)]
	for i := range b {
		b[i] ^= 0x5a
	}
}

// handed are rows with spare room that is written full, in the list and in each key.
func handed(l []api.Span) []api.Span {
	h := make([]api.Span, len(l), len(l)+1)
	for i, s := range l {
		h[i] = s
		h[i].Last = roomy(s.Last)
	}
	h[:len(l)+1][len(l)] = span("spare", 1, 2, 3)
	return h
}

// P3: rows and keys that are handed in stay as they were, and are not kept.
func TestRowsStay(t *testing.T) {
	for _, l := range [][]api.Span{nil, two(), four(), turned(four(), 2, func(s *api.Span) { s.Entries = 0 })} {
		h, key := handed(l), roomy([]byte("ab"))
		foot.Check(h)
		b, _, _ := foot.Bytes(h)
		foot.Find(h, key)
		foot.Total(h)
		if !sameList(h, l) || !same(h[:len(l)+1][len(l)], span("spare", 1, 2, 3)) || !stays(key, []byte("ab")) {
			t.Errorf("%v became %v", l, h)
		}
		for i, s := range l {
			if !stays(h[i].Last, s.Last) {
				t.Errorf("a key of %v became %v", s, h[i].Last)
			}
		}
		was := bytes.Clone(b)
		for i := range h {
			scribble(h[i].Last)
		}
		if !bytes.Equal(b, was) {
			t.Error("the foot hangs on what was handed in")
		}
		scribble(b)
		if again, _, _ := foot.Bytes(l); !bytes.Equal(again, was) {
			t.Error("the foot is kept")
		}
	}
}

// P3: bytes that are handed in stay as they were, and are not kept; the rows that come out share nothing.
func TestBytesStay(t *testing.T) {
	for _, was := range [][]byte{written(nil), written(two()), written(four()), written(four())[:30], append(written(two()), 9)} {
		b := roomy(was)
		l, _, _ := foot.Read(b)
		if !stays(b, was) {
			t.Fatalf("% x became % x", was, b)
		}
		kept := copied(l)
		scribble(b)
		if !sameList(l, kept) {
			t.Errorf("the rows of % x hang on it", was)
		}
		for i := range l {
			scribble(l[i].Last)
			for j := i + 1; j < len(l); j++ {
				if !same(l[j], kept[j]) {
					t.Errorf("rows %d and %d share a key's memory", i, j)
				}
			}
		}
		if again, _, _ := foot.Read(was); !sameList(again, kept) {
			t.Errorf("the rows of % x are kept", was)
		}
	}
}
