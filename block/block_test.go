package block_test

import (
	"bytes"
	"slices"
	"strings"
	"testing"

	"coppice/api"
	"coppice/block"
	"coppice/pair"
	"coppice/vint"
)

// dice are numbers below a bound, the same ones at each run.
type dice uint64

func (d *dice) below(n int) int {
	x := uint64(*d)*6364136223846793005 + 1442695040888963407
	*d = dice(x)
	return int((x >> 33) % uint64(n))
}

// text are so many bytes of a few kinds, so that texts often have much in common.
func (d *dice) text(size int) []byte {
	b := make([]byte, size)
	for i := range b {
		b[i] = []byte{0, 0, 'a', 'a', 'a', 'b', 255, 255}[d.below(8)]
	}
	return b
}

// entries are so many that rise, with keys and values of all lengths up to those bounds.
func (d *dice) entries(count, key, value int) []api.Entry {
	var l []api.Entry
	for len(l) < count {
		k := d.text(1 + d.below(key))
		if len(l) > 0 && d.below(2) == 0 {
			copy(k[:d.below(len(k)+1)], l[d.below(len(l))].Key)
		}
		at, is := slices.BinarySearchFunc(l, k, func(e api.Entry, k []byte) int { return bytes.Compare(e.Key, k) })
		if !is {
			l = slices.Insert(l, at, api.Entry{Key: k, Value: d.text(d.below(value + 1))})
		}
	}
	return l
}

func repeat(c byte, count int, rest ...byte) []byte {
	return append(bytes.Repeat([]byte{c}, count), rest...)
}

func entry(key, value string) api.Entry {
	return api.Entry{Key: []byte(key), Value: []byte(value)}
}

// numbered are so many entries: keys "k0A", "k0C" .. "k1A" .., five a ten; their numbers are the values.
func numbered(count int) []api.Entry {
	var l []api.Entry
	for i := range count {
		l = append(l, api.Entry{Key: []byte{'k', byte('0' + i/5), byte('A' + i%5*2)}, Value: []byte{byte(i)}})
	}
	return l
}

func same(x, y api.Entry) bool {
	return bytes.Equal(x.Key, y.Key) && bytes.Equal(x.Value, y.Value)
}

func sameList(x, y []api.Entry) bool { return slices.EqualFunc(x, y, same) }

// copied is a list in memory of its own.
func copied(l []api.Entry) []api.Entry {
	var c []api.Entry
	for _, e := range l {
		c = append(c, api.Entry{Key: bytes.Clone(e.Key), Value: bytes.Clone(e.Value)})
	}
	return c
}

// number are the bytes of one below 16384.
func number(n int) []byte {
	if n < 128 {
		return []byte{byte(n)}
	}
	return []byte{byte(n%128 + 128), byte(n / 128)}
}

// row are an entry's bytes behind a key.
func row(prev []byte, e api.Entry) []byte {
	n := 0
	for n < len(prev) && n < len(e.Key) && prev[n] == e.Key[n] {
		n++
	}
	return slices.Concat(number(n), number(len(e.Key)-n), number(len(e.Value)), e.Key[n:], e.Value)
}

// rows are the bytes of each entry of a block.
func rows(l []api.Entry) [][]byte {
	var out [][]byte
	for i, e := range l {
		var prev []byte
		if i%8 > 0 {
			prev = l[i-1].Key
		}
		out = append(out, row(prev, e))
	}
	return out
}

// lay puts a count, rows and their table together, whatever they are.
func lay(count []byte, rows [][]byte) []byte {
	b := slices.Clone(count)
	var table []byte
	for i, r := range rows {
		if i%8 == 0 {
			table = append(table, byte(len(b)%256), byte(len(b)/256))
		}
		b = append(b, r...)
	}
	return append(b, table...)
}

// written is the block of entries, told by the chapter's words.
func written(l []api.Entry) []byte { return lay(number(len(l)), rows(l)) }

// place is where the row of that number begins.
func place(rows [][]byte, n int) int {
	at := 1
	for _, r := range rows[:n] {
		at += len(r)
	}
	return at
}

// told is what Read must tell of bytes, and the entries ahead of an error of the count or of an entry: the chapter's words, one behind the other.
func told(b []byte) (l []api.Entry, err api.Errno, at int) {
	count, at, err := vint.Read(b, 0)
	if err != api.OK {
		return nil, err, at
	}
	if count == 0 || count > 64 {
		return nil, api.ErrBlockCount, 0
	}
	var table []byte
	for i := range int(count) {
		var prev []byte
		if i%8 > 0 {
			prev = l[i-1].Key
		} else {
			table = append(table, byte(at%256), byte(at/256))
		}
		e, behind, err := pair.Read(prev, b, at)
		if err != api.OK {
			return l, err, behind
		}
		if i%8 == 0 && i > 0 && bytes.Compare(l[i-1].Key, e.Key) >= 0 {
			return l, api.ErrPairOrder, at
		}
		l = append(l, e)
		at = behind
	}
	for _, c := range table {
		if at == len(b) || b[at] != c {
			return l, api.ErrBlockTable, at
		}
		at++
	}
	if at < len(b) {
		return l, api.ErrBlockRest, at
	}
	return l, api.OK, 0
}

func built(t *testing.T, l []api.Entry) []byte {
	t.Helper()
	b, err, n := block.Build(l)
	if err != api.OK || n != 0 {
		t.Fatalf("Build of %q: %d, %d", l, err, n)
	}
	return b
}

func checkBuild(t *testing.T, l []api.Entry, err api.Errno, n int) {
	t.Helper()
	if b, gotErr, gotN := block.Build(l); len(b) != 0 || gotErr != err || gotN != n {
		t.Errorf("Build of %q: % x, %d, %d; want %d, %d", l, b, gotErr, gotN, err, n)
	}
}

func checkFault(t *testing.T, b []byte, err api.Errno, at int) {
	t.Helper()
	if l, gotErr, gotAt := block.Read(b); len(l) != 0 || gotErr != err || gotAt != at {
		t.Errorf("Read of % x: %q, %d, %d; want %d, %d", b, l, gotErr, gotAt, err, at)
	}
}

func checkFind(t *testing.T, b, key, value []byte, is bool) {
	t.Helper()
	if got, gotIs, err := block.Find(b, key); !bytes.Equal(got, value) || gotIs != is || err != api.OK {
		t.Errorf("Find of %q: %q, %t, %d; want %q, %t", key, got, gotIs, err, value, is)
	}
}

// gone is what All goes through.
func gone(b []byte) []api.Entry {
	var l []api.Entry
	for k, v := range block.All(b) {
		l = append(l, api.Entry{Key: k, Value: v})
	}
	return l
}

// hold holds Read, All and Find of any bytes against the chapter's words; it tells whether they are a block.
func hold(t *testing.T, b []byte, keys ...[]byte) bool {
	t.Helper()
	l, err, at := told(b)
	if all := gone(b); !sameList(all, l) {
		t.Fatalf("All of % x: %q, want %q", b, all, l)
	}
	if err != api.OK {
		checkFault(t, b, err, at)
	} else if got, gotErr, gotAt := block.Read(b); !sameList(got, l) || gotErr != api.OK || gotAt != 0 {
		t.Fatalf("Read of % x: %q, %d, %d; want %q", b, got, gotErr, gotAt, l)
	}
	for _, k := range keys {
		value, is, findErr := block.Find(b, k)
		if (findErr != api.OK || !is) && len(value) != 0 || findErr != api.OK && is {
			t.Fatalf("Find of %q in % x: %q, %t, %d", k, b, value, is, findErr)
		}
	}
	return err == api.OK
}

// The rows of the chapter's table of examples.
func TestExamples(t *testing.T) {
	two := []api.Entry{entry("ab", "1"), entry("abc", "")}
	that := []byte{2, 0, 2, 1, 0x61, 0x62, 0x31, 2, 1, 0, 0x63, 1, 0}
	if b := built(t, two); !bytes.Equal(b, that) {
		t.Errorf("% x", b)
	}
	if l, err, at := block.Read(that); !sameList(l, two) || err != api.OK || at != 0 {
		t.Errorf("%q, %d, %d", l, err, at)
	}
	checkFault(t, that[:12], api.ErrBlockTable, 12)
	checkFault(t, slices.Concat(that, []byte{0}), api.ErrBlockRest, 13)
	checkFault(t, slices.Concat(that[:11], []byte{2, 0}), api.ErrBlockTable, 11)
	checkFault(t, nil, api.ErrVintShort, 0)
	checkFault(t, []byte{0}, api.ErrBlockCount, 0)
	checkFault(t, slices.Concat([]byte{0x41}, that[1:]), api.ErrBlockCount, 0)
	checkFind(t, that, []byte("abc"), nil, true)
	checkFind(t, that, []byte("b"), nil, false)
	var nine []api.Entry
	want := []byte{9}
	for i := range 9 {
		nine = append(nine, api.Entry{Key: []byte{byte('a' + i)}})
		want = append(want, 0, 1, 0, byte('a'+i))
	}
	if b := built(t, nine); !bytes.Equal(b, append(want, 1, 0, 0x21, 0)) {
		t.Errorf("% x", b)
	}
}

// B1 and P6.2: of every number of entries that may be, 1, 8, 9 and 64 among them.
func TestBuildAndRead(t *testing.T) {
	d := dice(6)
	for count := 1; count <= 64; count++ {
		for _, l := range [][]api.Entry{numbered(count), d.entries(count, 3, 0), d.entries(count, 9, 2), d.entries(count, 64, 256)} {
			b := built(t, l)
			if !bytes.Equal(b, written(l)) {
				t.Fatalf("Build of %q: % x", l, b)
			}
			if got, err, at := block.Read(b); !sameList(got, l) || err != api.OK || at != 0 {
				t.Fatalf("Read of %q: %q, %d, %d", l, got, err, at)
			}
			if got := gone(b); !sameList(got, l) {
				t.Fatalf("All of %q: %q", l, got)
			}
		}
	}
}

// B1 and P6.2: keys and values of the least and the greatest length; the table's places above 255 have a second byte.
func TestBuildLengths(t *testing.T) {
	for _, key := range []int{1, 2, 63, 64} {
		for _, value := range []int{0, 1, 127, 128, 255, 256} {
			for _, count := range []int{1, 8, 9, 64} {
				var l []api.Entry
				for i := range count {
					k := repeat('k', key)
					k[0] = byte(i)
					l = append(l, api.Entry{Key: k, Value: repeat('v', value)})
				}
				b := built(t, l)
				if !bytes.Equal(b, written(l)) {
					t.Fatalf("%d of %d and %d bytes: % x", count, key, value, b)
				}
				if got, err, _ := block.Read(b); !sameList(got, l) || err != api.OK {
					t.Fatalf("%d of %d and %d bytes: %q, %d", count, key, value, got, err)
				}
				for _, e := range l {
					checkFind(t, b, e.Key, e.Value, true)
				}
			}
		}
	}
	var longest []api.Entry
	for i := range 64 {
		longest = append(longest, api.Entry{Key: append([]byte{byte(i)}, repeat('k', 63)...), Value: repeat('v', 256)})
	}
	// 64 entries of 1 + 1 + 2 + 64 + 256 bytes; the eighth restart is the entry 56: at 18145, which is 46e1.
	if b := built(t, longest); len(b) != 1+64*324+16 || !bytes.Equal(b[len(b)-2:], []byte{0xe1, 0x46}) {
		t.Errorf("%d bytes, % x", len(b), b[len(b)-16:])
	}
}

// B1: no entries and too many are told ahead of all that is wrong with them.
func TestBuildCount(t *testing.T) {
	checkBuild(t, nil, api.ErrBlockCount, 0)
	checkBuild(t, []api.Entry{}, api.ErrBlockCount, 0)
	checkBuild(t, numbered(65), api.ErrBlockCount, 0)
	checkBuild(t, numbered(200), api.ErrBlockCount, 0)
	checkBuild(t, make([]api.Entry, 65), api.ErrBlockCount, 0)
	wrong := numbered(65)
	wrong[3], wrong[9].Key = wrong[2], repeat('k', 65)
	checkBuild(t, wrong, api.ErrBlockCount, 0)
	checkBuild(t, wrong[:64], api.ErrPairOrder, 3)
}

// B1: entries that may not be, and such as do not rise, at a restart and between two.
func TestBuildEntries(t *testing.T) {
	for _, count := range []int{1, 8, 9, 17, 64} {
		for i := range count {
			for _, wrong := range []api.Entry{{}, entry("", "1"), {Key: repeat('z', 65)}, {Key: []byte("z"), Value: repeat('v', 257)}, {Key: repeat('z', 5000)}} {
				l := numbered(count)
				l[i] = wrong
				checkBuild(t, l, api.ErrLong, i)
				if i+1 < count {
					l[i+1] = api.Entry{}
					checkBuild(t, l, api.ErrLong, i)
				}
			}
			if i == 0 {
				continue
			}
			ahead := numbered(count)[i-1].Key
			for _, key := range [][]byte{ahead, ahead[:2], []byte("k"), {0}, []byte("j\xff\xff\xff")} {
				l := numbered(count)
				l[i].Key = key
				checkBuild(t, l, api.ErrPairOrder, i)
				l[i].Value = repeat('v', 257)
				checkBuild(t, l, api.ErrLong, i)
			}
		}
	}
}

// B2: the number at the beginning: cut, not in its one form, too long, and such as no block has.
func TestReadCount(t *testing.T) {
	rest := built(t, numbered(1))[1:]
	for _, c := range []struct {
		count []byte
		err   api.Errno
		at    int
	}{
		{[]byte{0}, api.ErrBlockCount, 0}, {[]byte{65}, api.ErrBlockCount, 0}, {[]byte{66}, api.ErrBlockCount, 0}, {[]byte{127}, api.ErrBlockCount, 0},
		{[]byte{128, 1}, api.ErrBlockCount, 0}, {[]byte{129, 1}, api.ErrBlockCount, 0}, {[]byte{129, 2}, api.ErrBlockCount, 0},
		{vint.Bytes(1<<32 + 1), api.ErrBlockCount, 0}, {vint.Bytes(1<<63 + 1), api.ErrBlockCount, 0}, {vint.Bytes(1<<64 - 1), api.ErrBlockCount, 0},
		{[]byte{128, 0}, api.ErrVintForm, 1}, {[]byte{129, 0}, api.ErrVintForm, 1}, {[]byte{129, 128, 0}, api.ErrVintForm, 2}, {repeat(129, 9, 0), api.ErrVintForm, 9},
		{repeat(255, 9, 2), api.ErrVintLong, 9}, {repeat(129, 10), api.ErrVintLong, 9},
	} {
		for _, b := range [][]byte{c.count, slices.Concat(c.count, rest), slices.Concat(c.count, repeat(0, 300))} {
			checkFault(t, b, c.err, c.at)
			if l := gone(b); len(l) != 0 {
				t.Errorf("All of % x: %q", b, l)
			}
		}
	}
	checkFault(t, []byte{}, api.ErrVintShort, 0)
	for size := range 10 {
		checkFault(t, repeat(129, size), api.ErrVintShort, size)
	}
	for count := 1; count <= 64; count++ {
		checkFault(t, []byte{byte(count)}, api.ErrVintShort, 1)
	}
}

// cutRow is a wrong row of an entry: what Read tells of it, and how far behind its beginning.
type cutRow struct {
	bytes []byte
	err   api.Errno
	at    int
}

// wrongRows are wrong in each of the ways of the chapter ahead, behind a key or, of a restart, behind none; whatever stands behind them.
func wrongRows(prev []byte) []cutRow {
	l := []cutRow{
		{[]byte{0, 0, 0}, api.ErrLong, 0}, {[]byte{0, 0, 1, 'v'}, api.ErrLong, 0},
		{[]byte{0, 65, 0}, api.ErrLong, 0}, {[]byte{0, 1, 129, 2}, api.ErrLong, 0},
		{[]byte{byte(len(prev) + 1), 1, 0, 'z'}, api.ErrPairShared, 0},
		{slices.Concat(vint.Join(1<<64-1, 2, 0), []byte("zz")), api.ErrPairShared, 0},
		{vint.Join(0, 1<<64-1, 0), api.ErrLong, 0}, {vint.Join(0, 1, 1<<64-1), api.ErrLong, 0},
	}
	for i := range 3 {
		right := repeat(0, i)
		l = append(l,
			cutRow{append(slices.Clone(right), 129, 0), api.ErrVintForm, i + 1},
			cutRow{slices.Concat(right, repeat(255, 9, 2)), api.ErrVintLong, i + 9})
	}
	if len(prev) > 0 {
		l = append(l,
			cutRow{append([]byte{0, byte(len(prev)), 0}, prev...), api.ErrPairShared, 0},
			cutRow{[]byte{0, 2, 0, prev[0], 'z'}, api.ErrPairShared, 0},
			cutRow{[]byte{byte(len(prev)), 0, 0}, api.ErrPairOrder, 0},
			cutRow{[]byte{1, 0, 0}, api.ErrPairOrder, 0},
			cutRow{[]byte{0, 1, 0, 1}, api.ErrPairOrder, 0},
			cutRow{[]byte{byte(len(prev)), byte(65 - len(prev)), 0}, api.ErrLong, 0})
	}
	return l
}

// B2 and B4: entries that are wrong, at restarts and between them.
func TestReadEntries(t *testing.T) {
	for _, count := range []int{1, 8, 9, 17, 64} {
		l := numbered(count)
		for n := range count {
			var prev []byte
			if n%8 > 0 {
				prev = l[n-1].Key
			}
			for _, wrong := range wrongRows(prev) {
				r := rows(l)
				at := place(r, n)
				r[n] = wrong.bytes
				b := lay(number(count), r)
				checkFault(t, b, wrong.err, at+wrong.at)
				checkFault(t, slices.Concat(b, repeat(7, 400)), wrong.err, at+wrong.at)
				if all := gone(b); !sameList(all, l[:n]) {
					t.Errorf("All, wrong at entry %d: %q", n, all)
				}
			}
		}
	}
}

// B2: bytes that end within an entry: in each of its numbers, in its key, in its value.
func TestReadShort(t *testing.T) {
	for _, count := range []int{1, 8, 9, 17} {
		l := numbered(count)
		l[count-1].Value = repeat('v', 200)
		b := built(t, l)
		r := rows(l)
		at := place(r, count-1)
		for end := at; end < at+4; end++ {
			checkFault(t, b[:end], api.ErrVintShort, end)
		}
		for end := at + 4; end < at+len(r[count-1]); end++ {
			checkFault(t, b[:end], api.ErrPairShort, end)
			if all := gone(b[:end]); !sameList(all, l[:count-1]) {
				t.Errorf("All of %d bytes: %q", end, all)
			}
		}
	}
}

// B2 and B4: a restart whose key is not above the one ahead; what is wrong with its bytes is told ahead of that.
func TestReadRestarts(t *testing.T) {
	for _, count := range []int{9, 17, 64} {
		for n := 8; n < count; n += 8 {
			l := numbered(count)
			ahead := l[n-1].Key
			for _, key := range [][]byte{ahead, ahead[:2], ahead[:1], {0}, l[0].Key, []byte("j\xff\xff")} {
				r := rows(l)
				at := place(r, n)
				r[n] = row(nil, api.Entry{Key: key, Value: []byte("v")})
				b := lay(number(count), r)
				checkFault(t, b, api.ErrPairOrder, at)
				if all := gone(b); !sameList(all, l[:n]) {
					t.Errorf("All, restart %d: %q", n, all)
				}
				checkFault(t, b[:at+len(r[n])-1], api.ErrPairShort, at+len(r[n])-1)
			}
			r := rows(l)
			at := place(r, n)
			r[n] = row(ahead, l[n])
			checkFault(t, lay(number(count), r), api.ErrPairShared, at)
		}
	}
}

// B2: an entry between two restarts that is written whole, as a restart is.
func TestReadWholeKey(t *testing.T) {
	l := numbered(17)
	for n := range 17 {
		if n%8 == 0 {
			continue
		}
		r := rows(l)
		at := place(r, n)
		r[n] = row(nil, l[n])
		checkFault(t, lay(number(17), r), api.ErrPairShared, at)
	}
}

// B2: a table with another byte, the first or the second one of each restart; a byte that is wrong is told ahead of the end and of the rest.
func TestReadTable(t *testing.T) {
	for _, count := range []int{1, 8, 9, 16, 17, 64} {
		l := numbered(count)
		b := built(t, l)
		first := place(rows(l), count)
		for at := first; at < len(b); at++ {
			for _, turn := range []byte{1, 2, 128, 255} {
				w := slices.Clone(b)
				w[at] ^= turn
				checkFault(t, w, api.ErrBlockTable, at)
				checkFault(t, w[:at+1], api.ErrBlockTable, at)
				checkFault(t, append(w, 0, 0), api.ErrBlockTable, at)
				if all := gone(w); !sameList(all, l) {
					t.Errorf("All, table wrong at %d: %q", at, all)
				}
				w[len(b)-1] ^= 77
				checkFault(t, w[:len(b)], api.ErrBlockTable, at)
			}
			checkFault(t, b[:at], api.ErrBlockTable, at)
			if all := gone(b[:at]); !sameList(all, l) {
				t.Errorf("All of %d bytes: %q", at, all)
			}
		}
	}
}

// B2: the table of places as an order of bytes: the lower one is first.
func TestReadTableOrder(t *testing.T) {
	l := numbered(9)
	l[0].Value = repeat('v', 256)
	b := built(t, l)
	at := place(rows(l), 8)
	if !bytes.Equal(b[len(b)-4:], []byte{1, 0, byte(at % 256), byte(at / 256)}) || at < 257 {
		t.Errorf("% x", b[len(b)-4:])
	}
	b[len(b)-2], b[len(b)-1] = b[len(b)-1], b[len(b)-2]
	checkFault(t, b, api.ErrBlockTable, len(b)-2)
}

// B2: something behind the table.
func TestReadRest(t *testing.T) {
	for _, count := range []int{1, 8, 9, 64} {
		l := numbered(count)
		b := built(t, l)
		for _, rest := range [][]byte{{0}, {1, 0}, repeat(255, 100), b} {
			w := slices.Concat(b, rest)
			checkFault(t, w, api.ErrBlockRest, len(b))
			if all := gone(w); !sameList(all, l) {
				t.Errorf("All, with a rest: %q", all)
			}
		}
	}
}

// B2, B4, P6.2: blocks in which any byte is any other one, and what Read reads is just what Build makes.
func TestEveryByte(t *testing.T) {
	wide := numbered(9)
	wide[2].Value, wide[5] = repeat(1, 130), entry("k0z", "")
	d := dice(9)
	keys := [][]byte{nil, {0}, []byte("k0A"), []byte("k1G"), repeat('k', 65), repeat(255, 64)}
	for _, l := range [][]api.Entry{{entry("a", "")}, {entry("ab", "1"), entry("abc", "")}, numbered(9), wide, numbered(17), d.entries(10, 4, 3)} {
		b := built(t, l)
		for at := range b {
			for c := range 256 {
				w := slices.Clone(b)
				w[at] = byte(c)
				if !hold(t, w, keys...) {
					continue
				}
				read, _, _ := block.Read(w)
				if again := built(t, read); !bytes.Equal(again, w) {
					t.Fatalf("% x was read, and built as % x", w, again)
				}
			}
		}
	}
}

// B2, B4, P1: any bytes, such as look like a block among them.
func TestAnyBytes(t *testing.T) {
	d := dice(12)
	blocks := 0
	for range 60000 {
		b := []byte{byte(1 + d.below(3))}
		for range d.below(5) {
			key := 1 + d.below(2)
			b = append(b, byte(d.below(2)), byte(key), byte(d.below(2)))
			b = append(b, d.text(key)...)
		}
		b = append(b, 1, 0)
		if d.below(3) == 0 {
			b = b[:d.below(len(b)+1)]
		}
		if hold(t, b, nil, []byte("a"), []byte("b"), d.text(2)) {
			blocks++
			read, _, _ := block.Read(b)
			if again := built(t, read); !bytes.Equal(again, b) {
				t.Fatalf("% x was read, and built as % x", b, again)
			}
		}
	}
	if blocks < 100 {
		t.Errorf("%d blocks alone", blocks)
	}
	for range 20000 {
		b := make([]byte, d.below(40))
		for i := range b {
			b[i] = byte(d.below(1 << (1 + d.below(8))))
		}
		hold(t, b, nil, d.text(1), d.text(64))
	}
}

// P6.3: no beginning of a block is one, nor is one with something behind.
func TestWhole(t *testing.T) {
	d := dice(63)
	for _, count := range []int{1, 2, 7, 8, 9, 16, 17, 63, 64} {
		for _, l := range [][]api.Entry{numbered(count), d.entries(count, 5, 4), d.entries(count, 64, 20)} {
			b := built(t, l)
			for end := range b {
				if got, err, _ := block.Read(b[:end]); err == api.OK || len(got) != 0 {
					t.Fatalf("%d bytes of % x: %q", end, b, got)
				}
				hold(t, b[:end], l[count-1].Key)
			}
			for c := range 256 {
				if got, err, _ := block.Read(append(slices.Clone(b), byte(c))); err == api.OK || len(got) != 0 {
					t.Fatalf("%x behind % x: %q", c, b, got)
				}
			}
		}
	}
}

// near are keys at, ahead of, behind and within those of entries, and such as may not be.
func near(l []api.Entry) [][]byte {
	keys := [][]byte{nil, {}, {0}, {255}, repeat(255, 64), repeat(0, 64), repeat(0, 65), repeat(255, 65), repeat('k', 300)}
	for _, e := range l {
		k := e.Key
		lower, higher := bytes.Clone(k), bytes.Clone(k)
		lower[len(k)-1]--
		higher[len(k)-1]++
		keys = append(keys, k, k[:len(k)-1], append(bytes.Clone(k), 0), append(bytes.Clone(k), 255), lower, higher, append(lower, repeat(255, 70)...))
	}
	return keys
}

// B3 and P6.4: Find of a key is what Read and All have of it.
func TestFind(t *testing.T) {
	d := dice(64)
	for count := 1; count <= 64; count++ {
		for _, l := range [][]api.Entry{numbered(count), d.entries(count, 3, 3), d.entries(count, 64, 256)} {
			b := built(t, l)
			for _, k := range near(l) {
				at := slices.IndexFunc(l, func(e api.Entry) bool { return bytes.Equal(e.Key, k) })
				if at < 0 {
					checkFind(t, b, k, nil, false)
				} else {
					checkFind(t, b, k, l[at].Value, true)
				}
			}
		}
	}
}

// B3: an entry without a value is there.
func TestFindEmptyValue(t *testing.T) {
	l := numbered(17)
	for i := range l {
		l[i].Value = nil
	}
	b := built(t, l)
	for _, e := range l {
		checkFind(t, b, e.Key, nil, true)
	}
}

// B3, P1, P2: bytes that are no block have some answer; with an error, nothing else is told.
func TestFindNoBlock(t *testing.T) {
	keys := near(numbered(3))
	for _, b := range [][]byte{nil, {0}, {1}, {64}, {65}, {128}, {1, 0}, {1, 1, 0}, {1, 9, 0}, {1, 255, 255}, {64, 1, 0}, repeat(64, 16), repeat(1, 3), repeat(64, 17), repeat(255, 40), repeat(0, 40), {9, 0, 1, 0, 'a', 1, 0}} {
		hold(t, b, keys...)
	}
	b := built(t, numbered(17))
	for at := len(b) - 6; at < len(b); at++ {
		for c := range 256 {
			w := slices.Clone(b)
			w[at] = byte(c)
			hold(t, w, keys...)
			hold(t, w[:at], keys...)
		}
	}
}

// B4: left early at each entry, and gone through again; one range that was left does not hang on another one.
func TestAllAgain(t *testing.T) {
	l := numbered(20)
	all := block.All(built(t, l))
	for stop := 1; stop <= 20; stop++ {
		var got []api.Entry
		for k, v := range all {
			got = append(got, api.Entry{Key: k, Value: v})
			if len(got) == stop {
				break
			}
		}
		if !sameList(got, l[:stop]) {
			t.Errorf("left at %d: %q", stop, got)
		}
	}
	calls := 0
	all(func(k, v []byte) bool { calls++; return false })
	if calls != 1 {
		t.Errorf("yielded %d times to one that wants no more", calls)
	}
}

// B4: within itself, to the end and left early.
func TestAllWithin(t *testing.T) {
	l := numbered(10)
	all := block.All(built(t, l))
	var got []string
	for outer := range all {
		for inner := range all {
			if bytes.Compare(inner, outer) > 0 {
				break
			}
			got = append(got, string(outer)+string(inner))
		}
	}
	var want []string
	for i := range l {
		for _, inner := range l[:i+1] {
			want = append(want, string(l[i].Key)+string(inner.Key))
		}
	}
	if !slices.Equal(got, want) {
		t.Errorf("%q", got)
	}
}

// B4: the bytes are read while they are gone through.
func TestAllReadsLate(t *testing.T) {
	l := numbered(9)
	b := built(t, l)
	other := copied(l)
	other[8].Value = []byte{99}
	all := block.All(b)
	copy(b, built(t, other))
	var got []api.Entry
	for k, v := range all {
		got = append(got, api.Entry{Key: k, Value: v})
	}
	if !sameList(got, other) {
		t.Errorf("changed ahead of the range: %q", got)
	}
	got = nil
	for k, v := range all {
		if len(got) == 3 {
			copy(b, built(t, l))
		}
		got = append(got, api.Entry{Key: k, Value: v})
	}
	if !sameList(got, l) {
		t.Errorf("changed within the range: %q", got)
	}
	b[0] = 0
	for k := range all {
		t.Errorf("no entries: %q", k)
	}
	b[0] = 9
	count := 0
	for range all {
		count++
		if count == 2 {
			b[place(rows(l), 4)] = 64
		}
	}
	if count != 4 {
		t.Errorf("an entry that became wrong: %d ahead of it", count)
	}
}

// B4: whoever writes over what is yielded changes nothing of what comes.
func TestAllScribbled(t *testing.T) {
	l := numbered(20)
	b := built(t, l)
	was := bytes.Clone(b)
	var got []api.Entry
	for k, v := range block.All(b) {
		got = append(got, api.Entry{Key: bytes.Clone(k), Value: bytes.Clone(v)})
		scribble(k)
		scribble(v)
	}
	if !sameList(got, l) || !bytes.Equal(b, was) {
		t.Errorf("%q", got)
	}
}

// B4: a panic of whoever ranges is not taken for one of the reader's own.
func TestAllPanics(t *testing.T) {
	b := built(t, numbered(9))
	for _, what := range []any{"mine", api.Fault{Err: api.ErrArg}, api.ErrArg} {
		count := 0
		func() {
			defer func() {
				if got := recover(); got != what {
					t.Errorf("%v became %v", what, got)
				}
			}()
			for range block.All(b) {
				count++
				panic(what)
			}
			t.Errorf("%v is gone", what)
		}()
		if count != 1 {
			t.Errorf("gone through %d times", count)
		}
	}
}

func checkBuilder(t *testing.T, x *block.Builder, l []api.Entry) {
	t.Helper()
	size, last := 0, []byte(nil)
	if len(l) > 0 {
		size, last = len(written(l)), l[len(l)-1].Key
	}
	if x.Len() != len(l) || x.Size() != size || !bytes.Equal(x.Last(), last) {
		t.Fatalf("%d, %d, %q; want %d, %d, %q", x.Len(), x.Size(), x.Last(), len(l), size, last)
	}
}

func checkAdd(t *testing.T, x *block.Builder, e api.Entry, want api.Errno) {
	t.Helper()
	if err := x.Add(e); err != want {
		t.Fatalf("Add of %q: %d, want %d", e, err, want)
	}
}

// B5: without entries, also behind Bytes.
func TestBuilderEmpty(t *testing.T) {
	x := block.New()
	for range 3 {
		checkBuilder(t, x, nil)
		if b := x.Bytes(); len(b) != 0 {
			t.Errorf("% x", b)
		}
	}
	checkAdd(t, x, api.Entry{}, api.ErrLong)
	checkBuilder(t, x, nil)
	checkAdd(t, x, entry("\x00", ""), api.OK)
	x.Bytes()
	checkBuilder(t, x, nil)
	if b := x.Bytes(); len(b) != 0 {
		t.Errorf("behind Bytes: % x", b)
	}
}

// B5: entry by entry, of each number of them; one builder makes block behind block, of keys that are lower too.
func TestBuilder(t *testing.T) {
	d := dice(5)
	x := block.New()
	for count := 1; count <= 64; count++ {
		for _, l := range [][]api.Entry{numbered(count), d.entries(count, 64, 256), d.entries(count, 3, 1)} {
			for i, e := range l {
				checkAdd(t, x, e, api.OK)
				checkBuilder(t, x, l[:i+1])
			}
			if b := x.Bytes(); !bytes.Equal(b, written(l)) || !bytes.Equal(b, built(t, l)) {
				t.Fatalf("%q: % x", l, b)
			}
			checkBuilder(t, x, nil)
		}
	}
}

// B5: with an error nothing is changed; entries go on behind it.
func TestBuilderErrors(t *testing.T) {
	l := numbered(64)
	x := block.New()
	for i, e := range l {
		checkAdd(t, x, e, api.OK)
		for _, wrong := range []api.Entry{{}, {Value: []byte("v")}, {Key: repeat('z', 65)}, {Key: []byte("z"), Value: repeat('v', 257)}} {
			checkAdd(t, x, wrong, api.ErrLong)
		}
		low := api.ErrPairOrder
		if i == 63 {
			low = api.ErrBlockCount
		}
		for _, key := range []string{string(e.Key), "k", "\x00", "j\xff\xff\xff"} {
			checkAdd(t, x, entry(key, "v"), low)
		}
		checkAdd(t, x, api.Entry{Key: e.Key[:1], Value: repeat('v', 257)}, api.ErrLong)
		checkBuilder(t, x, l[:i+1])
	}
	checkAdd(t, x, entry("z", ""), api.ErrBlockCount)
	checkAdd(t, x, api.Entry{Key: repeat('z', 65)}, api.ErrLong)
	checkBuilder(t, x, l)
	if b := x.Bytes(); !bytes.Equal(b, written(l)) {
		t.Errorf("% x", b)
	}
	checkAdd(t, x, entry("a", ""), api.OK)
	checkBuilder(t, x, []api.Entry{entry("a", "")})
}

// B5: builders do not hang on one another.
func TestBuildersApart(t *testing.T) {
	x, y := block.New(), block.New()
	checkAdd(t, x, entry("m", "1"), api.OK)
	checkAdd(t, y, entry("a", "2"), api.OK)
	checkBuilder(t, x, []api.Entry{entry("m", "1")})
	x.Bytes()
	checkBuilder(t, y, []api.Entry{entry("a", "2")})
}

// roomy is a text with spare room that is written full.
func roomy(b []byte) []byte {
	full := append(slices.Clone(b), repeat(0x77, 20)...)
	return full[:len(b)]
}

// stays: is what roomy made as it was, with its spare room?
func stays(now, was []byte) bool {
	return bytes.Equal(now[:len(was)+20], append(slices.Clone(was), repeat(0x77, 20)...))
}

// scribble writes over a list and its spare room.
func scribble(b []byte) {
	b = b[:cap(b)]
	for i := range b {
		b[i] ^= 0x5a
	}
}

// P3: entries that are handed in stay as they were, and are not kept.
func TestEntriesStay(t *testing.T) {
	for _, count := range []int{1, 8, 9, 64} {
		l := numbered(count)
		handed := make([]api.Entry, count, count+1)
		for i, e := range l {
			handed[i] = api.Entry{Key: roomy(e.Key), Value: roomy(e.Value)}
		}
		handed[:count+1][count] = entry("spare", "room")
		x := block.New()
		for _, e := range handed {
			x.Add(e)
			x.Add(e)
		}
		b := built(t, handed)
		for i, e := range l {
			if !stays(handed[i].Key, e.Key) || !stays(handed[i].Value, e.Value) {
				t.Errorf("entry %d became %q", i, handed[i])
			}
		}
		if !same(handed[:count+1][count], entry("spare", "room")) {
			t.Errorf("the spare room became %q", handed[:count+1][count])
		}
		for i := range handed {
			scribble(handed[i].Key)
			scribble(handed[i].Value)
		}
		checkBuilder(t, x, l)
		if !bytes.Equal(b, written(l)) || !bytes.Equal(x.Bytes(), b) {
			t.Errorf("%d entries: the block hangs on what was handed in", count)
		}
	}
}

// P3: bytes and keys that are handed in stay as they were, and are not kept.
func TestBytesStay(t *testing.T) {
	l := numbered(17)
	for _, was := range [][]byte{built(t, l), built(t, l)[:60], append(built(t, l), 1, 2, 3), repeat(64, 30)} {
		b, key := roomy(was), roomy(l[9].Key)
		read, _, _ := block.Read(b)
		value, _, _ := block.Find(b, key)
		all := gone(b)
		if !stays(b, was) || !stays(key, l[9].Key) {
			t.Fatalf("% x became % x", was, b)
		}
		keptRead, keptValue, keptAll := copied(read), bytes.Clone(value), copied(all)
		scribble(b)
		scribble(key)
		if !sameList(read, keptRead) || !bytes.Equal(value, keptValue) || !sameList(all, keptAll) {
			t.Errorf("what was told of % x hangs on it", was)
		}
	}
}

// texts are all of a list's keys and values.
func texts(l []api.Entry) [][]byte {
	var out [][]byte
	for _, e := range l {
		out = append(out, e.Key, e.Value)
	}
	return out
}

// checkApart writes over texts, one behind the other, and holds the ones behind against what they were.
func checkApart(t *testing.T, list ...[]byte) {
	t.Helper()
	var kept [][]byte
	for _, s := range list {
		kept = append(kept, slices.Clone(s))
	}
	for i, s := range list {
		if !bytes.Equal(s, kept[i]) {
			t.Fatalf("%q became %q", kept[i], s)
		}
		scribble(s)
	}
}

// P3: what comes out is new memory, its spare room too, and no two lists of it share any.
func TestComesOutNew(t *testing.T) {
	l := numbered(20)
	l[3].Value, l[4].Value = nil, repeat('v', 256)
	b := built(t, l)
	was := bytes.Clone(b)
	read, _, _ := block.Read(b)
	value, _, _ := block.Find(b, l[9].Key)
	none, _, _ := block.Find(b, []byte("none"))
	empty, _, _ := block.Find(b, l[3].Key)
	all := gone(b)
	checkApart(t, slices.Concat(texts(read), texts(all), [][]byte{value, none, empty})...)
	if !bytes.Equal(b, was) {
		t.Error("what was told lies where the block does")
	}
	if again, err, _ := block.Read(b); !sameList(again, l) || err != api.OK {
		t.Errorf("%q, %d", again, err)
	}
	x := block.New()
	for i, e := range l {
		checkAdd(t, x, e, api.OK)
		checkApart(t, x.Last(), x.Last())
		checkBuilder(t, x, l[:i+1])
	}
	first := x.Bytes()
	for _, e := range l {
		checkAdd(t, x, e, api.OK)
	}
	checkApart(t, first, x.Bytes(), built(t, l), built(t, l))
	if again := built(t, l); !bytes.Equal(again, was) {
		t.Error("Build hangs on what it told")
	}
}

// P3: with a block behind it a builder keeps nothing of what Bytes told.
func TestBytesNotKept(t *testing.T) {
	x := block.New()
	for _, e := range numbered(9) {
		x.Add(e)
	}
	scribble(x.Bytes())
	l := []api.Entry{entry("a", strings.Repeat("1", 40)), entry("ab", "2")}
	x.Add(l[0])
	x.Add(l[1])
	if b := x.Bytes(); !bytes.Equal(b, written(l)) {
		t.Errorf("% x", b)
	}
}
