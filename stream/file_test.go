package stream_test

import (
	"bytes"
	"math"
	"slices"
	"testing"

	"coppice/api"
	"coppice/block"
	"coppice/stream"
	"coppice/vint"
)

// S6: streams are opened, whatever their blocks' bytes are: these are not looked at.
func TestOpen(t *testing.T) {
	for _, b := range some(t) {
		want := told(b)
		if l := file(t, b).Spans(); !sameSpans(l, want.spans) {
			t.Errorf("%v", l)
		}
		for at := 8; at < items(b)[len(items(b))-6]; at++ {
			if l := file(t, turned(b, at, b[at]^255)).Spans(); !sameSpans(l, want.spans) {
				t.Errorf("%d: %v", at, l)
			}
		}
	}
}

// S6: no head, or another one.
func TestOpenHead(t *testing.T) {
	b := whole(t, three(), 2)
	checkOpen(t, "none", nil, api.ErrStreamHead, 0)
	for size := range 8 {
		checkOpen(t, "a head that is cut", b[:size], api.ErrStreamHead, 0)
		for _, c := range []byte{0, 'C', 'x', 2} {
			checkOpen(t, "another head", turned(b, size, c), api.ErrStreamHead, 0)
			checkOpen(t, "another head alone", turned(b, size, c)[:8], api.ErrStreamHead, 0)
		}
	}
}

// S6: too few bytes for a tail; one that does not end so; one that tells a place that can't be.
func TestOpenTail(t *testing.T) {
	b := whole(t, three(), 2)
	for size := 8; size < 20; size++ {
		checkOpen(t, "too short", b[:size], api.ErrStreamTail, 8)
		checkOpen(t, "too short", slices.Concat(b[:8], tail(8)[20-size:]), api.ErrStreamTail, 8)
	}
	for size := 20; size < len(b); size++ {
		checkOpen(t, "cut", b[:size], api.ErrStreamTail, size-12)
	}
	for at := len(b) - 4; at < len(b); at++ {
		for _, c := range []byte{0, 'x', b[at] ^ 1, b[at] ^ 32} {
			checkOpen(t, "another end", turned(b, at, c), api.ErrStreamTail, len(b)-12)
		}
	}
	checkOpen(t, "a byte behind", append(bytes.Clone(b), 0), api.ErrStreamTail, len(b)-11)
	behind := len(b) - 12
	for _, place := range []uint64{0, 1, 7, uint64(behind) + 1, uint64(len(b)), 256 + 40, 1<<32 + 40, 1<<56 + 40, 1<<63 + 40, math.MaxInt64, 1<<64 - 1, 1<<64 - 8} {
		checkOpen(t, "place", slices.Concat(b[:behind], tail(place)), api.ErrStreamTail, behind)
	}
}

// S6: no foot where the tail says; the tail is not looked into for one.
func TestOpenKind(t *testing.T) {
	b := whole(t, three(), 2)
	behind := len(b) - 12
	for place := 8; place <= behind; place++ {
		x := slices.Concat(b[:behind], tail(uint64(place)))
		if b[place] != 'F' || place == behind {
			checkOpen(t, "kind", x, api.ErrStreamKind, place)
		}
	}
	for c := range 256 {
		if c != 'F' {
			checkOpen(t, "kind", turned(b, 40, byte(c)), api.ErrStreamKind, 40)
		}
	}
	// The tail's first byte is an F where its place is 70.
	x := slices.Concat([]byte(head), make([]byte, 62), tail(70))
	checkOpen(t, "the tail's own F", x, api.ErrStreamKind, 70)
	checkOpen(t, "nothing but a tail", slices.Concat([]byte(head), tail(8)), api.ErrStreamKind, 8)
}

// S6: lengths that are none, with the place where that shows; lengths with which the frame does not end at the tail.
func TestOpenLength(t *testing.T) {
	open := func(frame ...byte) []byte { return slices.Concat([]byte(head), frame, tail(8)) }
	checkOpen(t, "no length", open('F'), api.ErrVintShort, 9)
	checkOpen(t, "a length that the tail cuts", open('F', 0x80, 0x80), api.ErrVintShort, 11)
	checkOpen(t, "form", open('F', 0x82, 0, 0, 0), api.ErrVintForm, 10)
	checkOpen(t, "long", open(append([]byte{'F'}, bytes.Repeat([]byte{255}, 12)...)...), api.ErrVintLong, 18)
	for room := range 4 {
		checkOpen(t, "too short for a sum", open(append([]byte{'F', 0}, make([]byte, room)...)...), api.ErrStreamLen, 9)
		// Lengths that would be right if they wrapped round.
		for n := uint64(1); n < 9; n++ {
			checkOpen(t, "wrap round", open(slices.Concat([]byte{'F'}, number(-n), make([]byte, room))...), api.ErrStreamLen, 9)
		}
	}
	checkOpen(t, "room for a sum alone", open('F', 0, 0, 0, 0, 0), api.ErrVintShort, 10)
	for _, n := range []int{0, 1, 5} {
		l, spans := parts(t, by(plain(n), 2))
		text := footText(spans)
		b := laid(l, text)
		begin := len(b) - 12 - len(sealed('F', text).bytes())
		for _, size := range []uint64{0, 1, uint64(len(text)) - 1, uint64(len(text)) + 1, uint64(len(text)) + 4, 1 << 31, 1<<32 + uint64(len(text)), 1 << 63, 1<<64 - 1} {
			p := sealed('F', text)
			p.size = number(size)
			checkOpen(t, "length", slices.Concat(b[:begin], p.bytes(), tail(uint64(begin))), api.ErrStreamLen, begin+1)
		}
	}
}

// S6: a sum that is another one, ahead of what is wrong with the foot; then foot.Read's errors, at their places.
func TestOpenFoot(t *testing.T) {
	l, spans := parts(t, by(plain(5), 2))
	text := footText(spans)
	b := laid(l, text)
	begin := len(b) - 12 - len(sealed('F', text).bytes())
	for at := begin + 2; at < len(b)-12; at++ {
		checkOpen(t, "sum", turned(b, at, b[at]^4), api.ErrCrcSum, len(b)-16)
	}
	for _, c := range []struct {
		what string
		text []byte
		err  api.Errno
		at   int
	}{
		{"none", nil, api.ErrVintShort, 0},
		{"no total", text[:len(text)-1], api.ErrVintShort, len(text) - 1},
		{"another total", turned(text, len(text)-1, 6), api.ErrFootTotal, len(text) - 1},
		{"a rest", append(bytes.Clone(text), 1), api.ErrFootRest, len(text)},
		{"a key of no bytes", turned(text, 1, 0), api.ErrFootKey, 1},
		{"a key that ends too early", []byte{1, 5, 'a'}, api.ErrFootShort, 3},
		{"another place", turned(text, 4, 9), api.ErrFootPlace, 4},
		{"no entries", turned(text, 6, 0), api.ErrFootCount, 6},
		{"too many rows", number(8388609), api.ErrFootMany, 0},
	} {
		checkOpen(t, c.what, laid(l, c.text), c.err, begin+2+c.at)
	}
}

// S6: rows that may be, but whose frames do not end where the foot's begins.
func TestOpenFit(t *testing.T) {
	l, spans := parts(t, by(plain(5), 2))
	begin := spans[2].At + spans[2].Len
	for n := range 3 {
		checkOpen(t, "rows too few", laid(l, footText(spans[:n])), api.ErrStreamFoot, begin)
		checkOpen(t, "rows too many", laid(l[:n], footText(spans)), api.ErrStreamFoot, spans[n].At)
	}
	for _, by := range []int{-1, 1, 100000} {
		x := slices.Clone(spans)
		x[2].Len += by
		checkOpen(t, "a longer frame", laid(l, footText(x)), api.ErrStreamFoot, begin)
	}
	checkOpen(t, "no rows, but a byte", laid([]part{{body: []byte{7}}}, footText(nil)), api.ErrStreamFoot, 9)
	if l := file(t, laid(nil, footText(nil))).Spans(); len(l) != 0 {
		t.Error(l)
	}
}

// checkGet holds Get of a key against a value, or none.
func checkGet(t *testing.T, f *stream.File, key []byte, value []byte, is bool) {
	t.Helper()
	if v, got, err := f.Get(key); !bytes.Equal(v, value) || got != is || err != api.OK {
		t.Fatalf("Get of %q: %q, %v, %d; want %q, %v", key, v, got, err, value, is)
	}
}

// S7, P8.5: Get at, between, ahead of and behind keys, also such as may not be.
func TestGet(t *testing.T) {
	for _, n := range []int{1, 2, 7, 64} {
		for _, count := range []int{0, 1, 2, 65, 200} {
			l := plain(count)
			f := file(t, whole(t, l, n))
			for i, e := range l {
				checkGet(t, f, e.Key, e.Value, true)
				checkGet(t, f, odd(i), nil, false)
				checkGet(t, f, append(bytes.Clone(e.Key), 0), nil, false)
				checkGet(t, f, append(bytes.Clone(e.Key), make([]byte, 100)...), nil, false)
			}
			for _, key := range [][]byte{nil, {}, {0}, {255}, bytes.Repeat([]byte{255}, 64), bytes.Repeat([]byte{255}, 300), make([]byte, 300)} {
				checkGet(t, f, key, nil, false)
			}
		}
	}
}

// wrong is a block's bytes that are wrong in one way, with the row that goes with them, and what Get tells of it.
type wrong struct {
	what string
	p    part
	s    api.Span // its Last and its Entries
	err  api.Errno
}

// wrongs are all ways in which a block with the keys m and p is wrong; where several are, the first one is told.
func wrongs(t *testing.T) []wrong {
	t.Helper()
	right := built(t, []api.Entry{entry("m", "1"), entry("p", "2")})
	row := api.Span{Last: []byte("p"), Entries: 2}
	turn := func(change func(p *part)) part {
		p := right
		change(&p)
		return p
	}
	size := uint64(len(right.body))
	none := sealed('B', []byte{0})
	return []wrong{
		{"kind F", turn(func(p *part) { p.kind = []byte{'F'} }), row, api.ErrStreamKind},
		{"kind 0, and all else", part{[]byte{0}, []byte{0x80, 0}, none.body, nil}, row, api.ErrStreamKind},
		{"no length", part{kind: []byte{'B'}}, row, api.ErrVintShort},
		{"a length that the row cuts", part{[]byte{'B'}, []byte{0x80, 0x80}, nil, nil}, row, api.ErrVintShort},
		{"a length's form", turn(func(p *part) { p.size = []byte{byte(size) + 128, 0} }), row, api.ErrVintForm},
		{"a long length", turn(func(p *part) { p.size = bytes.Repeat([]byte{255}, 10) }), row, api.ErrVintLong},
		{"a greater length", turn(func(p *part) { p.size = number(size + 1) }), row, api.ErrStreamLen},
		{"a lesser length", turn(func(p *part) { p.size = number(size - 1) }), row, api.ErrStreamLen},
		{"a length of 0", turn(func(p *part) { p.size = number(0) }), row, api.ErrStreamLen},
		{"a length that wraps round", turn(func(p *part) { p.size = number(1<<64 - 1) }), row, api.ErrStreamLen},
		{"no room for a sum", part{[]byte{'B'}, number(1<<64 - 4), nil, nil}, row, api.ErrStreamLen},
		{"half a sum", part{[]byte{'B'}, number(1<<64 - 2), nil, []byte{0, 0}}, row, api.ErrStreamLen},
		{"nothing but a length", part{[]byte{'B'}, []byte{0}, nil, nil}, row, api.ErrStreamLen},
		{"more than the frame", turn(func(p *part) { p.sum = append(bytes.Clone(p.sum), 0) }), row, api.ErrStreamLen},
		{"a sum", turn(func(p *part) { p.sum = []byte{1, 2, 3, 4} }), row, api.ErrCrcSum},
		{"a sum, and the block", turn(func(p *part) { p.body = make([]byte, size) }), row, api.ErrCrcSum},
		{"an empty body", sealed('B', nil), row, api.ErrVintShort},
		{"a body too long", sealed('B', make([]byte, 100000)), row, api.ErrBlockCount},
		{"no entries", none, row, api.ErrBlockCount},
		{"a table", sealed('B', turned(right.body, len(right.body)-1, 9)), row, api.ErrBlockTable},
		{"a rest", sealed('B', append(bytes.Clone(right.body), 0)), row, api.ErrBlockRest},
		{"a table, and the entries", sealed('B', turned(right.body, len(right.body)-1, 9)), api.Span{Last: []byte("p"), Entries: 3}, api.ErrBlockTable},
		{"fewer entries", right, api.Span{Last: []byte("p"), Entries: 3}, api.ErrStreamFoot},
		{"more entries", right, api.Span{Last: []byte("p"), Entries: 1}, api.ErrStreamFoot},
		{"a lower last key", right, api.Span{Last: []byte("q"), Entries: 2}, api.ErrStreamFoot},
		{"a higher last key", right, api.Span{Last: []byte("o"), Entries: 2}, api.ErrStreamFoot},
		{"a longer last key", right, api.Span{Last: []byte("p\x00"), Entries: 2}, api.ErrStreamFoot},
	}
}

// around is a stream with a wrong block between two right ones.
func around(t *testing.T, x wrong) []byte {
	t.Helper()
	l := []part{built(t, []api.Entry{entry("a", "A"), entry("c", "C")}), x.p, built(t, []api.Entry{entry("x", "X"), entry("z", "Z")})}
	spans := []api.Span{{Last: []byte("c"), Entries: 2}, x.s, {Last: []byte("z"), Entries: 2}}
	at := 8
	for i, p := range l {
		spans[i].At, spans[i].Len = at, len(p.bytes())
		at += spans[i].Len
	}
	return laid(l, footText(spans))
}

// S7: Get of what lies in a wrong block tells the error; keys in other blocks, and behind all, are told as ever.
func TestGetWrong(t *testing.T) {
	for _, x := range wrongs(t) {
		b := around(t, x)
		hold(t, b)
		f := file(t, b)
		for _, key := range [][]byte{[]byte("c\x00"), []byte("m"), []byte("n"), x.s.Last} {
			if v, is, err := f.Get(key); len(v) != 0 || is || err != x.err {
				t.Errorf("%s: Get of %q: %q, %v, %d; want %d", x.what, key, v, is, err, x.err)
			}
		}
		checkGet(t, f, []byte("a"), []byte("A"), true)
		checkGet(t, f, []byte("c"), []byte("C"), true)
		checkGet(t, f, []byte("b"), nil, false)
		checkGet(t, f, []byte("x"), []byte("X"), true)
		checkGet(t, f, append(x.s.Last, 0), nil, false)
		checkGet(t, f, []byte("zz"), nil, false)
	}
}

// S7: Range goes up to a wrong block, and tells nothing of it or behind it; one that begins behind it is as ever.
func TestRangeWrong(t *testing.T) {
	for _, x := range wrongs(t) {
		f := file(t, around(t, x))
		for _, c := range []struct{ lo, hi, want string }{
			{"", "", "ac"}, {"b", "", "c"}, {"", "c", "a"}, {"c\x00", "", ""}, {"m", "", ""}, {"n", "zz", ""},
			{"w", "", "xz"}, {"x", "z", "x"}, {"xx", "", "z"}, {"zz", "", ""},
		} {
			got := ""
			for k := range f.Range([]byte(c.lo), []byte(c.hi)) {
				got += string(k)
			}
			if got != c.want {
				t.Errorf("%s: from %q below %q: %q; want %q", x.what, c.lo, c.hi, got, c.want)
			}
		}
	}
}

// S7: blocks of which each is right by itself, but whose keys do not rise from one to the next: the words hold as they stand.
func TestRangeOverlap(t *testing.T) {
	l, spans := parts(t, [][]api.Entry{{entry("a", ""), entry("c", "")}, {entry("b", ""), entry("d", "")}, {entry("e", "")}})
	f := file(t, laid(l, footText(spans)))
	for _, c := range []struct{ lo, hi, want string }{
		{"", "", "acbde"}, {"b", "", "cbde"}, {"c", "", "cde"}, {"c\x00", "", "de"},
		{"", "c", "a"}, {"", "cc", "acb"}, {"", "d", "acb"}, {"", "e", "acbd"}, {"d", "c", ""},
	} {
		got := ""
		for k := range f.Range([]byte(c.lo), []byte(c.hi)) {
			got += string(k)
		}
		if got != c.want {
			t.Errorf("from %q below %q: %q; want %q", c.lo, c.hi, got, c.want)
		}
	}
	checkGet(t, f, []byte("b"), nil, false)
	checkGet(t, f, []byte("d"), nil, true)
}

// between are the entries of a list from lo on, below hi.
func between(l []api.Entry, lo, hi []byte) []api.Entry {
	var some []api.Entry
	for _, e := range l {
		if bytes.Compare(e.Key, lo) >= 0 && (len(hi) == 0 || bytes.Compare(e.Key, hi) < 0) {
			some = append(some, e)
		}
	}
	return some
}

// S7, P8.5: Range at, between, ahead of and behind keys, by blocks of several sizes; an empty hi, one that is lo, one below it.
func TestRange(t *testing.T) {
	for _, n := range []int{1, 2, 3, 64} {
		for _, count := range []int{0, 1, 9, 10} {
			l := plain(count)
			f := file(t, whole(t, l, n))
			bounds := [][]byte{nil, {}, {0}, {255}, bytes.Repeat([]byte{255}, 300)}
			for i := range l {
				bounds = append(bounds, even(i), odd(i), append(even(i), make([]byte, 99)...))
			}
			for _, lo := range bounds {
				for _, hi := range bounds {
					if got := drawn(f.Range(lo, hi)); !sameList(got, between(l, lo, hi)) {
						t.Fatalf("%d by %d, from %q below %q: %v", count, n, lo, hi, got)
					}
				}
			}
		}
	}
}

// S7: a range is left early, gone through again, and within itself.
func TestRangeAgain(t *testing.T) {
	l := plain(20)
	f := file(t, whole(t, l, 3))
	all := f.Range(even(2), even(17))
	want := l[2:17]
	for n := 1; n <= len(want); n++ {
		var got []api.Entry
		for k, v := range all {
			got = append(got, api.Entry{Key: k, Value: v})
			if len(got) == n {
				break
			}
		}
		if !sameList(got, want[:n]) {
			t.Fatalf("%d: %v", n, got)
		}
	}
	var outer []api.Entry
	for k, v := range all {
		outer = append(outer, api.Entry{Key: k, Value: v})
		if got := drawn(all); !sameList(got, want) {
			t.Fatalf("within: %v", got)
		}
		for range all {
			break
		}
		checkGet(t, f, k, v, true)
	}
	if !sameList(outer, want) {
		t.Errorf("%v", outer)
	}
}

// P8.5: of any stream, Get and Range tell what the whole has.
func TestHereAndThere(t *testing.T) {
	d := dice(85)
	for range 60 {
		l := d.entries(d.pick(0, 1, 5, 40, 120))
		b, _ := written(t, d.cut(l))
		f := file(t, b)
		for _, e := range l {
			checkGet(t, f, e.Key, e.Value, true)
		}
		for range 60 {
			lo, hi := d.text(d.pick(0, 1, 2, 10, 70)), d.text(d.pick(0, 1, 2, 10, 70))
			if got := drawn(f.Range(lo, hi)); !sameList(got, between(l, lo, hi)) {
				t.Fatalf("from %q below %q: %v", lo, hi, got)
			}
			at, is := slices.BinarySearchFunc(l, api.Entry{Key: lo}, byKey)
			if is {
				checkGet(t, f, lo, l[at].Value, true)
			} else {
				checkGet(t, f, lo, nil, false)
			}
		}
	}
}

// S7: Get and Range of any files tell of each block what its bytes and its row say.
func TestAnyFiles(t *testing.T) {
	d := dice(77)
	files, wrongBlocks := 0, 0
	for range 20000 {
		b := d.near(t)
		spans, err, _ := opened(b)
		if err != api.OK {
			continue
		}
		files++
		f := file(t, b)
		var want []api.Entry
		ok := true
		for _, s := range spans {
			l, err := looked(b, s)
			if err != api.OK {
				ok = false
				wrongBlocks++
			}
			if ok {
				want = append(want, l...)
			}
			for _, key := range [][]byte{s.Last, d.text(3)} {
				checkLook(t, f, b, spans, key)
			}
		}
		if got := drawn(f.Range(nil, nil)); !sameList(got, want) {
			t.Fatalf("% x: %v; want %v", b, got, want)
		}
	}
	if files < 3000 || wrongBlocks < 300 {
		t.Errorf("%d files, %d wrong blocks", files, wrongBlocks)
	}
}

// checkLook holds Get of a key against what the bytes say.
func checkLook(t *testing.T, f *stream.File, b []byte, spans []api.Span, key []byte) {
	t.Helper()
	var value []byte
	var is bool
	var err api.Errno
	for _, s := range spans {
		if bytes.Compare(s.Last, key) >= 0 {
			var l []api.Entry
			l, err = looked(b, s)
			for _, e := range l {
				if bytes.Equal(e.Key, key) {
					value, is = e.Value, true
				}
			}
			break
		}
	}
	if v, got, gotErr := f.Get(key); !bytes.Equal(v, value) || got != is || gotErr != err {
		t.Fatalf("Get of %q in % x: %q, %v, %d; want %q, %v, %d", key, b, v, got, gotErr, value, is, err)
	}
}

// looked is what a row's block has, told by the chapter's words.
func looked(b []byte, s api.Span) ([]api.Entry, api.Errno) {
	frame := b[s.At : s.At+s.Len]
	if frame[0] != 0x42 {
		return nil, api.ErrStreamKind
	}
	size, body, err := vint.Read(frame, 1)
	if err != api.OK {
		return nil, err
	}
	if size > 1<<20 || body+int(size)+4 != s.Len {
		return nil, api.ErrStreamLen
	}
	if !bytes.Equal(frame[s.Len-4:], sum(frame[body:s.Len-4])) {
		return nil, api.ErrCrcSum
	}
	l, err, _ := block.Read(frame[body : s.Len-4])
	if err == api.OK && (len(l) != s.Entries || !bytes.Equal(l[len(l)-1].Key, s.Last)) {
		return nil, api.ErrStreamFoot
	}
	return l, err
}
