package vint_test

import (
	"bytes"
	"math"
	"slices"
	"testing"

	"coppice/api"
	"coppice/vint"
)

const top = uint64(math.MaxUint64)

// edges are the numbers at which a byte more is needed, and their neighbours, by rising order.
func edges() []uint64 {
	l := []uint64{0, 300, top}
	for k := range 64 {
		p := uint64(1) << k
		l = append(l, p-1, p, p+1)
	}
	slices.Sort(l)
	return slices.Compact(l)
}

// spread are some numbers of all sizes, the same ones at each run.
func spread(count int) []uint64 {
	l := make([]uint64, count)
	x := uint64(88172645463325252)
	for i := range l {
		x ^= x << 13
		x ^= x >> 7
		x ^= x << 17
		l[i] = x >> (i % 64)
	}
	return l
}

// spell cuts a number into groups by the words of the chapter's section 'Types'.
func spell(n uint64) []byte {
	var b []byte
	for lo := 0; lo == 0 || lo < 64 && n>>lo != 0; lo += 7 {
		b = append(b, byte(n>>lo&127)+128)
	}
	b[len(b)-1] -= 128
	return b
}

// expected is what V3 says of Read, told a second time, without a Taker.
func expected(b []byte, at int) (uint64, int, api.Errno) {
	if at < 0 || at > len(b) {
		return 0, 0, api.ErrArg
	}
	var n uint64
	for i, c := range b[at:] {
		if i == 9 && c > 1 {
			return 0, at + i, api.ErrVintLong
		}
		if i > 0 && c == 0 {
			return 0, at + i, api.ErrVintForm
		}
		n += uint64(c&127) << (7 * i)
		if c < 128 {
			return n, at + i + 1, api.OK
		}
	}
	return 0, len(b), api.ErrVintShort
}

func repeat(c byte, count int, rest ...byte) []byte {
	return append(bytes.Repeat([]byte{c}, count), rest...)
}

// rows are all rows of up to four of the bytes at which something turns, and all tenth and eleventh bytes behind nine that go on.
func rows() [][]byte {
	l := [][]byte{{}}
	for from := 0; len(l[from]) < 4; from++ {
		for _, c := range []byte{0, 1, 2, 127, 128, 129, 255} {
			l = append(l, append(slices.Clone(l[from]), c))
		}
	}
	for _, c := range []byte{128, 129, 255} {
		for count := range 12 {
			l = append(l, repeat(c, count), repeat(c, count, 0), repeat(c, count, 1), repeat(c, count, 127))
		}
		for tenth := range 256 {
			l = append(l, repeat(c, 8, byte(tenth)), repeat(c, 9, byte(tenth)), repeat(c, 9, byte(tenth), 0), repeat(c, 9, byte(tenth), 7))
		}
	}
	return l
}

func checkRead(t *testing.T, b []byte, at int, n uint64, place int, err api.Errno) {
	t.Helper()
	if gotN, gotPlace, gotErr := vint.Read(b, at); gotN != n || gotPlace != place || gotErr != err {
		t.Errorf("Read of % x at %d: %d, %d, %d; want %d, %d, %d", b, at, gotN, gotPlace, gotErr, n, place, err)
	}
}

// V1.
func TestSize(t *testing.T) {
	for _, c := range []struct {
		n    uint64
		size int
	}{{0, 1}, {1, 1}, {127, 1}, {128, 2}, {300, 2}, {16383, 2}, {16384, 3}, {1<<63 - 1, 9}, {1 << 63, 10}, {top, 10}} {
		if got := vint.Size(c.n); got != c.size {
			t.Errorf("Size of %d: %d, want %d", c.n, got, c.size)
		}
	}
	for k := range 64 {
		if got := vint.Size(1 << k); got != k/7+1 {
			t.Errorf("Size of 2^%d: %d", k, got)
		}
	}
	for _, n := range slices.Concat(edges(), spread(1000)) {
		if got := vint.Size(n); got != len(spell(n)) {
			t.Errorf("Size of %d: %d", n, got)
		}
	}
}

// V2.
func TestBytes(t *testing.T) {
	for _, c := range []struct {
		n uint64
		b []byte
	}{
		{0, []byte{0}}, {127, []byte{0x7f}}, {128, []byte{0x80, 1}}, {300, []byte{0xac, 2}}, {16384, []byte{0x80, 0x80, 1}},
		{1<<63 - 1, repeat(0xff, 8, 0x7f)}, {1 << 63, repeat(0x80, 9, 1)}, {top, repeat(0xff, 9, 1)},
	} {
		if got := vint.Bytes(c.n); !bytes.Equal(got, c.b) {
			t.Errorf("Bytes of %d: % x, want % x", c.n, got, c.b)
		}
	}
	for _, n := range slices.Concat(edges(), spread(1000)) {
		b := vint.Bytes(n)
		if !bytes.Equal(b, spell(n)) || len(b) != vint.Size(n) {
			t.Errorf("Bytes of %d: % x", n, b)
		}
		if last := b[len(b)-1]; last >= 128 || last == 0 && len(b) > 1 {
			t.Errorf("Bytes of %d: last %x", n, last)
		}
	}
}

// V2.
func TestJoin(t *testing.T) {
	for _, c := range []struct {
		l []uint64
		b []byte
	}{
		{nil, nil}, {[]uint64{}, nil}, {[]uint64{0}, []byte{0}}, {[]uint64{0, 0, 0}, []byte{0, 0, 0}}, {[]uint64{5, 300, 0}, []byte{5, 0xac, 2, 0}},
		{[]uint64{top, 1 << 63, 127, 128}, slices.Concat(repeat(0xff, 9, 1), repeat(0x80, 9, 1), []byte{0x7f, 0x80, 1})},
	} {
		if got := vint.Join(c.l...); !bytes.Equal(got, c.b) {
			t.Errorf("Join of %d: % x, want % x", c.l, got, c.b)
		}
	}
	if got := vint.Join(); len(got) != 0 {
		t.Errorf("Join of nothing: % x", got)
	}
	var whole []byte
	l := slices.Concat(edges(), spread(1000))
	for _, n := range l {
		whole = append(whole, spell(n)...)
	}
	if !bytes.Equal(vint.Join(l...), whole) {
		t.Error("Join of many numbers is not their bytes one behind the other")
	}
}

// V3: the rows of the chapter's table of examples.
func TestReadExamples(t *testing.T) {
	b := []byte{0xac, 2, 7}
	checkRead(t, b, 0, 300, 2, api.OK)
	checkRead(t, b, 2, 7, 3, api.OK)
	checkRead(t, b, 3, 0, 3, api.ErrVintShort)
	checkRead(t, b, 4, 0, 0, api.ErrArg)
	checkRead(t, []byte{0x80, 0}, 0, 0, 1, api.ErrVintForm)
	checkRead(t, []byte{0x80, 0x80, 1}, 0, 16384, 3, api.OK)
	checkRead(t, []byte{0x80}, 0, 0, 1, api.ErrVintShort)
	checkRead(t, repeat(0xff, 9, 2), 0, 0, 9, api.ErrVintLong)
	checkRead(t, repeat(0x80, 9, 0), 0, 0, 9, api.ErrVintForm)
}

// V3: places.
func TestReadPlaces(t *testing.T) {
	for _, at := range []int{math.MinInt, -2, -1, 3, 4, math.MaxInt} {
		checkRead(t, []byte{1, 2}, at, 0, 0, api.ErrArg)
	}
	checkRead(t, nil, 0, 0, 0, api.ErrVintShort)
	checkRead(t, nil, 1, 0, 0, api.ErrArg)
	checkRead(t, nil, -1, 0, 0, api.ErrArg)
	checkRead(t, []byte{}, 0, 0, 0, api.ErrVintShort)
	checkRead(t, []byte{0, 0}, 1, 0, 2, api.OK)
	checkRead(t, []byte{0xac, 2}, 1, 2, 2, api.OK)
	checkRead(t, []byte{9, 0x80}, 1, 0, 2, api.ErrVintShort)
	checkRead(t, []byte{9, 9, 0x80, 0x81, 0}, 2, 0, 4, api.ErrVintForm)
	checkRead(t, slices.Concat([]byte{9, 9}, repeat(0x80, 9, 2)), 2, 0, 11, api.ErrVintLong)
	checkRead(t, slices.Concat([]byte{9, 9}, repeat(0x80, 9, 1, 5)), 2, 1<<63, 12, api.OK)
}

// V3: the tenth byte, and what stands behind it.
func TestReadTenth(t *testing.T) {
	checkRead(t, repeat(0xff, 9, 1), 0, top, 10, api.OK)
	checkRead(t, repeat(0x80, 9, 1), 0, 1<<63, 10, api.OK)
	checkRead(t, repeat(0xff, 9, 0), 0, 0, 9, api.ErrVintForm)
	checkRead(t, repeat(0xff, 9), 0, 0, 9, api.ErrVintShort)
	checkRead(t, repeat(0x80, 8, 2), 0, 1<<57, 9, api.OK)
	for _, c := range []byte{2, 127, 128, 129, 255} {
		checkRead(t, repeat(0x80, 9, c), 0, 0, 9, api.ErrVintLong)
		checkRead(t, repeat(0x80, 9, c, 0), 0, 0, 9, api.ErrVintLong)
	}
	checkRead(t, repeat(0x80, 30), 0, 0, 9, api.ErrVintLong)
}

// V3: a byte 0 that is first is a number, one that is not is none.
func TestReadZero(t *testing.T) {
	checkRead(t, []byte{0}, 0, 0, 1, api.OK)
	checkRead(t, []byte{0, 0x80}, 0, 0, 1, api.OK)
	for count := 1; count < 10; count++ {
		checkRead(t, repeat(0x80, count, 0), 0, 0, count, api.ErrVintForm)
		checkRead(t, repeat(0xff, count, 0, 2), 0, 0, count, api.ErrVintForm)
	}
}

// V3: the spare room of a list is no part of it.
func TestReadSpareRoom(t *testing.T) {
	b := []byte{0x80, 1, 7}
	checkRead(t, b[:1], 0, 0, 1, api.ErrVintShort)
	checkRead(t, b[:2], 3, 0, 0, api.ErrArg)
}

// V3: whatever the bytes and the place.
func TestReadRows(t *testing.T) {
	for _, b := range rows() {
		for at := -1; at <= len(b)+1; at++ {
			n, place, err := expected(b, at)
			checkRead(t, b, at, n, place, err)
		}
	}
}

// expectedList is what V4 says of List.
func expectedList(b []byte) ([]uint64, []int, api.Errno, int) {
	var l []uint64
	var places []int
	for at := 0; at < len(b); {
		n, place, err := expected(b, at)
		if err != api.OK {
			return l, places, err, place
		}
		l, places, at = append(l, n), append(places, at), place
	}
	return l, places, api.OK, 0
}

// V4.
func TestList(t *testing.T) {
	for _, c := range []struct {
		b   []byte
		l   []uint64
		err api.Errno
		at  int
	}{
		{nil, nil, api.OK, 0},
		{[]byte{}, nil, api.OK, 0},
		{[]byte{0}, []uint64{0}, api.OK, 0},
		{[]byte{0, 0}, []uint64{0, 0}, api.OK, 0},
		{[]byte{5, 0xac, 2, 0, 0x80, 1}, []uint64{5, 300, 0, 128}, api.OK, 0},
		{slices.Concat(repeat(0xff, 9, 1), repeat(0x80, 9, 1)), []uint64{top, 1 << 63}, api.OK, 0},
		{[]byte{5, 0xac, 2, 0x80, 0}, nil, api.ErrVintForm, 4},
		{[]byte{0x80, 0, 5}, nil, api.ErrVintForm, 1},
		{[]byte{5, 0x80}, nil, api.ErrVintShort, 2},
		{[]byte{0x80}, nil, api.ErrVintShort, 1},
		{append([]byte{5, 6}, repeat(0x80, 9, 2, 5)...), nil, api.ErrVintLong, 11},
		{[]byte{5, 0x80, 0x80, 0, 0x80}, nil, api.ErrVintForm, 3},
	} {
		if l, err, at := vint.List(c.b); !slices.Equal(l, c.l) || err != c.err || at != c.at {
			t.Errorf("List of % x: %d, %d, %d", c.b, l, err, at)
		}
	}
	for _, b := range rows() {
		l, _, err, at := expectedList(b)
		if err != api.OK {
			l = nil
		}
		if got, gotErr, gotAt := vint.List(b); !slices.Equal(got, l) || gotErr != err || gotAt != at {
			t.Errorf("List of % x: %d, %d, %d", b, got, gotErr, gotAt)
		}
	}
}

// V5.
func TestAll(t *testing.T) {
	for _, b := range append(rows(), nil, []byte{5, 0xac, 2, 7, 0x80, 0, 9}, []byte{5, 0xac, 2, 7, 0x80}, []byte{0x80, 0, 9}) {
		l, at, _, _ := expectedList(b)
		var numbers []uint64
		var places []int
		for place, n := range vint.All(b) {
			places, numbers = append(places, place), append(numbers, n)
		}
		if !slices.Equal(places, at) || !slices.Equal(numbers, l) {
			t.Errorf("All of % x: %d at %d", b, numbers, places)
		}
	}
}

// V5: left early, then gone through again.
func TestAllLeft(t *testing.T) {
	all := vint.All([]byte{5, 0xac, 2, 7})
	for _, stop := range []int{0, 1, 3, 9, 9} {
		var places []int
		for place := range all {
			places = append(places, place)
			if place == stop {
				break
			}
		}
		var want []int
		for _, place := range []int{0, 1, 3} {
			if place <= stop {
				want = append(want, place)
			}
		}
		if !slices.Equal(places, want) {
			t.Errorf("left at %d: %d", stop, places)
		}
	}
}

// V5: within itself.
func TestAllWithin(t *testing.T) {
	all := vint.All([]byte{1, 2, 3})
	var l []uint64
	for _, n := range all {
		for _, m := range all {
			l = append(l, 10*n+m)
			if m == n {
				break
			}
		}
	}
	if !slices.Equal(l, []uint64{11, 21, 22, 31, 32, 33}) {
		t.Error(l)
	}
}

// V5: the bytes are read while they are gone through, not ahead.
func TestAllLive(t *testing.T) {
	b := []byte{1, 2, 0x80, 0}
	all := vint.All(b)
	b[0] = 9
	var l []uint64
	for place, n := range all {
		l = append(l, n)
		switch place {
		case 0:
			b[1] = 8
		case 1:
			b[3] = 1
		}
	}
	if !slices.Equal(l, []uint64{9, 8, 128}) {
		t.Error(l)
	}
	l = nil
	for _, n := range all {
		l = append(l, n)
		b[1] = 0x80
		b[2] = 0
	}
	if !slices.Equal(l, []uint64{9}) {
		t.Error(l)
	}
}

type taken struct {
	last  bool
	err   api.Errno
	n     uint64
	whole bool
	count int
}

func take(x *vint.Taker, c byte) taken {
	var a taken
	a.last, a.err = x.Take(c)
	a.n, a.whole = x.Number()
	a.count = x.Taken()
	return a
}

func checkTaker(t *testing.T, b []byte, want ...taken) {
	t.Helper()
	x := vint.New()
	if n, whole := x.Number(); n != 0 || whole || x.Taken() != 0 {
		t.Errorf("of nothing: %d, %t, %d", n, whole, x.Taken())
	}
	for i, c := range b {
		if got := take(x, c); got != want[i] {
			t.Errorf("Take of % x, byte %d: %+v, want %+v", b, i, got, want[i])
		}
	}
}

// V6: behind its last byte, and behind an error, it takes nothing more.
func TestTaker(t *testing.T) {
	checkTaker(t, nil)
	checkTaker(t, []byte{0, 0, 5}, taken{true, api.OK, 0, true, 1}, taken{false, api.ErrArg, 0, true, 1}, taken{false, api.ErrArg, 0, true, 1})
	checkTaker(t, []byte{127, 128}, taken{true, api.OK, 127, true, 1}, taken{false, api.ErrArg, 127, true, 1})
	checkTaker(t, []byte{0xac, 2, 0, 255, 1}, taken{false, api.OK, 0, false, 1}, taken{true, api.OK, 300, true, 2}, taken{false, api.ErrArg, 300, true, 2}, taken{false, api.ErrArg, 300, true, 2}, taken{false, api.ErrArg, 300, true, 2})
	checkTaker(t, []byte{0x85, 0, 1, 0, 255}, taken{false, api.OK, 0, false, 1}, taken{false, api.ErrVintForm, 0, false, 2}, taken{false, api.ErrArg, 0, false, 2}, taken{false, api.ErrArg, 0, false, 2}, taken{false, api.ErrArg, 0, false, 2})
}

// V6: the tenth byte.
func TestTakerTenth(t *testing.T) {
	for tenth := range 256 {
		x := vint.New()
		for i := range 9 {
			if got := take(x, 255); got != (taken{count: i + 1}) {
				t.Errorf("byte %d: %+v", i, got)
			}
		}
		want := taken{err: api.ErrVintLong, count: 10}
		switch tenth {
		case 0:
			want.err = api.ErrVintForm
		case 1:
			want = taken{true, api.OK, top, true, 10}
		}
		if got := take(x, byte(tenth)); got != want {
			t.Errorf("tenth %d: %+v", tenth, got)
		}
		want.last, want.err = false, api.ErrArg
		if got := take(x, 1); got != want {
			t.Errorf("behind the tenth %d: %+v", tenth, got)
		}
	}
}

// V6: byte by byte it tells what Read tells of the whole.
func TestTakerRows(t *testing.T) {
	for _, b := range rows() {
		n, place, err := expected(b, 0)
		x := vint.New()
		for i, c := range b {
			want := taken{count: i + 1}
			switch {
			case err == api.OK && i == place-1:
				want = taken{true, api.OK, n, true, place}
			case err == api.OK && i >= place:
				want = taken{false, api.ErrArg, n, true, place}
			case err != api.OK && i == place:
				want.err = err
			case err != api.OK && i > place:
				want = taken{err: api.ErrArg, count: place + 1}
			}
			if got := take(x, c); got != want {
				t.Errorf("Take of % x, byte %d: %+v, want %+v", b, i, got, want)
			}
		}
	}
}

// V6: two of them have nothing in common.
func TestTakersApart(t *testing.T) {
	x, y := vint.New(), vint.New()
	x.Take(0x81)
	if got := take(y, 3); got != (taken{true, api.OK, 3, true, 1}) {
		t.Errorf("the second: %+v", got)
	}
	if got := take(x, 1); got != (taken{true, api.OK, 129, true, 2}) {
		t.Errorf("the first: %+v", got)
	}
}

// P1.2: List of Join of any numbers is these numbers.
func TestThereAndBack(t *testing.T) {
	many := slices.Concat(edges(), spread(5000))
	for _, l := range [][]uint64{nil, {0}, {top}, {0, 0}, {128, 0, 127}, edges(), many} {
		if got, err, at := vint.List(vint.Join(l...)); !slices.Equal(got, l) || err != api.OK || at != 0 {
			t.Errorf("List of Join of %d numbers: %d of them, %d, %d", len(l), len(got), err, at)
		}
	}
	for _, n := range many {
		if got, err, at := vint.List(vint.Bytes(n)); !slices.Equal(got, []uint64{n}) || err != api.OK || at != 0 {
			t.Errorf("List of Bytes of %d: %d, %d, %d", n, got, err, at)
		}
	}
}

// P1.2: where Read tells a number, its Bytes are just those that were read.
func TestBackAndThere(t *testing.T) {
	for _, b := range rows() {
		for at := range b {
			n, behind, err := vint.Read(b, at)
			if err == api.OK && !bytes.Equal(vint.Bytes(n), b[at:behind]) {
				t.Errorf("Read of % x at %d: %d, %d", b, at, n, behind)
			}
		}
	}
}

// P1.3: none begins another; the greater one has no fewer bytes.
func TestNoneBeginsAnother(t *testing.T) {
	l := slices.Concat(edges(), spread(500))
	slices.Sort(l)
	l = slices.Compact(l)
	spelt := make([][]byte, len(l))
	for i, n := range l {
		spelt[i] = vint.Bytes(n)
	}
	for i, n := range l {
		for j := range i {
			small, great := spelt[j], spelt[i]
			if bytes.HasPrefix(great, small) || bytes.HasPrefix(small, great) {
				t.Errorf("%d and %d: one begins the other", l[j], n)
			}
			if len(great) < len(small) || vint.Size(n) < vint.Size(l[j]) {
				t.Errorf("%d has fewer bytes than %d", n, l[j])
			}
		}
	}
}

// P3: what is handed in is not changed, nor its spare room.
func TestHandedIn(t *testing.T) {
	room := []byte{5, 0xac, 2, 7, 0x80, 0, 9, 9}
	kept := slices.Clone(room)
	for size := range len(room) {
		b := room[:size]
		vint.Read(b, 0)
		vint.List(b)
		for range vint.All(b) {
		}
		if !bytes.Equal(room, kept) {
			t.Fatalf("the first %d of % x became % x", size, kept, room)
		}
	}
	numbers := []uint64{1, 300, top, 4, 4}
	keptNumbers := slices.Clone(numbers)
	vint.Join(numbers[:3]...)
	if !slices.Equal(numbers, keptNumbers) {
		t.Error(numbers)
	}
}

// P3: what comes out is new memory, its spare room too.
func TestComesOutNew(t *testing.T) {
	for _, n := range []uint64{0, 127, 300, top} {
		b := vint.Bytes(n)
		clear(b[:cap(b)])
		j := vint.Join(n, n)
		clear(j[:cap(j)])
		if !bytes.Equal(vint.Bytes(n), spell(n)) || !bytes.Equal(vint.Join(n, n), append(spell(n), spell(n)...)) {
			t.Errorf("%d: an answer hangs on an earlier one", n)
		}
	}
	in := []byte{5, 7}
	l, _, _ := vint.List(in)
	clear(l[:cap(l)])
	if again, _, _ := vint.List(in); !slices.Equal(again, []uint64{5, 7}) {
		t.Error(again)
	}
}
