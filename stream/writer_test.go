package stream_test

import (
	"bytes"
	"math"
	"slices"
	"strings"
	"testing"

	"coppice/api"
	"coppice/pipe"
	"coppice/stream"
)

// The chapter's examples: the stream by 2, and the rows of the table.
func TestExamples(t *testing.T) {
	first := []byte{2, 0, 2, 1, 'a', 'b', '1', 2, 1, 0, 'c', 1, 0}
	second := []byte{1, 0, 1, 0, 'c', 1, 0}
	rows := []byte{2, 3, 'a', 'b', 'c', 8, 19, 2, 1, 'c', 27, 13, 1, 3}
	want := slices.Concat([]byte("coppice\x01B\x0d"), first, sum(first), []byte("B\x07"), second, sum(second), []byte("F\x0e"), rows, sum(rows), []byte{40, 0, 0, 0, 0, 0, 0, 0}, []byte("end."))
	if b, err, n := stream.Bytes(three(), 2); !bytes.Equal(b, want) || err != api.OK || n != 0 {
		t.Errorf("% x, %d, %d", b, err, n)
	}
	if l, err, at := stream.Parse(want); !sameList(l, three()) || err != api.OK || at != 0 {
		t.Errorf("%v, %d, %d", l, err, at)
	}
	spans := []api.Span{{Last: []byte("abc"), At: 8, Len: 19, Entries: 2}, {Last: []byte("c"), At: 27, Len: 13, Entries: 1}}
	if l := file(t, want).Spans(); !sameSpans(l, spans) {
		t.Error(l)
	}
	none := []byte("coppice\x01F\x02\x00\x00\xff\x12\xd9\x41\x08\x00\x00\x00\x00\x00\x00\x00end.")
	if b, err, n := stream.Bytes(nil, 1); !bytes.Equal(b, none) || len(b) != 28 || err != api.OK || n != 0 {
		t.Errorf("% x, %d, %d", b, err, n)
	}
	if l, err, at := stream.Parse(none); len(l) != 0 || err != api.OK || at != 0 {
		t.Errorf("%v, %d, %d", l, err, at)
	}
	checkParse(t, "27 bytes", none[:27], api.ErrCursorShort, 16)
	checkParse(t, "one more", append(bytes.Clone(none), 0), api.ErrStreamRest, 28)
	checkParse(t, "none", nil, api.ErrCursorShort, 0)
	checkParse(t, "another head", []byte("doppice\x01"), api.ErrStreamHead, 0)
	checkParse(t, "another kind", []byte("coppice\x01G"), api.ErrStreamKind, 8)
	for _, n := range []int{0, 65} {
		if w, err := stream.NewWriter(n); w != nil || err != api.ErrArg {
			t.Errorf("NewWriter(%d): %d", n, err)
		}
	}
	w := writer(t, 2)
	checkErrs(t, "row 5", []api.Errno{w.Add(entry("b", "")), w.Add(entry("a", "")), w.Add(entry("", "")), w.Close(), w.Add(entry("c", "")), w.Close()},
		api.OK, api.ErrPairOrder, api.ErrLong, api.OK, api.ErrStreamShut, api.ErrStreamShut)
}

func checkErrs(t *testing.T, what string, got []api.Errno, want ...api.Errno) {
	t.Helper()
	if !slices.Equal(got, want) {
		t.Errorf("%s: %v; want %v", what, got, want)
	}
}

// S1, S2: a block of 1 to 64 entries may be, and no other; of Bytes that is told ahead of what is wrong with entries.
func TestBlockBound(t *testing.T) {
	for _, n := range []int{math.MinInt, -64, -1, 0, 65, 66, 128, 256, 257, 1<<32 + 1, math.MaxInt} {
		if w, err := stream.NewWriter(n); w != nil || err != api.ErrArg {
			t.Errorf("NewWriter(%d): %d", n, err)
		}
		for _, l := range [][]api.Entry{nil, three(), {entry("b", ""), entry("a", "")}} {
			if b, err, at := stream.Bytes(l, n); len(b) != 0 || err != api.ErrArg || at != 0 {
				t.Errorf("Bytes by %d: % x, %d, %d", n, b, err, at)
			}
		}
	}
	for n := 1; n <= 64; n++ {
		for _, count := range []int{0, 1, n - 1, n, n + 1, 2 * n, 2*n + 1, 130} {
			l := plain(count)
			if b, err, at := stream.Bytes(l, n); !bytes.Equal(b, whole(t, l, n)) || err != api.OK || at != 0 {
				t.Errorf("%d entries by %d: % x, %d, %d", count, n, b, err, at)
			}
		}
	}
}

// S1, S2: entries and values of the least and the greatest size, so many that a block's length has three bytes.
func TestGreatEntries(t *testing.T) {
	var l []api.Entry
	for i := range 150 {
		key := bytes.Repeat([]byte{byte(i)}, 64)
		l = append(l, api.Entry{Key: []byte{byte(i)}}, api.Entry{Key: key, Value: bytes.Repeat([]byte{byte(i)}, 256)})
	}
	for _, n := range []int{1, 2, 63, 64} {
		b, err, _ := stream.Bytes(l, n)
		if !bytes.Equal(b, whole(t, l, n)) || err != api.OK {
			t.Fatalf("by %d: % x, %d", n, b, err)
		}
		if got, err, at := stream.Parse(b); !sameList(got, l) || err != api.OK || at != 0 {
			t.Fatalf("by %d: %d, %d", n, err, at)
		}
	}
}

// S1, S2: the error, and the number, of the first entry that may not be or does not rise, within a block and behind one; what may not be is told ahead of what does not rise.
func TestWrongEntries(t *testing.T) {
	long := strings.Repeat("z", 65)
	value := strings.Repeat("v", 257)
	for _, n := range []int{1, 2, 3, 4, 64} {
		for at := range 9 {
			ahead := plain(at)
			cases := []struct {
				e   api.Entry
				err api.Errno
			}{
				{entry("", ""), api.ErrLong}, {entry(long, ""), api.ErrLong}, {entry("zz", value), api.ErrLong},
				{entry("\x00", value), api.ErrLong}, {entry("", value), api.ErrLong},
			}
			if at > 0 {
				last := string(even(at - 1))
				for _, key := range []string{last, last[:1], "\x00"} {
					cases = append(cases, struct {
						e   api.Entry
						err api.Errno
					}{entry(key, "x"), api.ErrPairOrder})
				}
			}
			for _, c := range cases {
				checkRefused(t, n, ahead, c.e, c.err)
			}
		}
	}
}

// checkRefused holds Bytes and a Writer of entries, with one behind them that is refused, against the error; the writer must go on as if it had not come.
func checkRefused(t *testing.T, n int, ahead []api.Entry, e api.Entry, err api.Errno) {
	t.Helper()
	behind := []api.Entry{entry("zz", "1"), entry("", "")}
	if b, gotErr, at := stream.Bytes(slices.Concat(ahead, []api.Entry{e}, behind), n); len(b) != 0 || gotErr != err || at != len(ahead) {
		t.Errorf("%v behind %d by %d: % x, %d, %d", e, len(ahead), n, b, gotErr, at)
	}
	w := writer(t, n)
	for _, x := range ahead {
		w.Add(x)
	}
	spans := w.Spans()
	if got := w.Add(e); got != err {
		t.Errorf("Add of %v behind %d by %d: %d", e, len(ahead), n, got)
	}
	if !sameSpans(w.Spans(), spans) {
		t.Errorf("%v behind %d by %d ended a block", e, len(ahead), n)
	}
	checkErrs(t, "behind a refused one", []api.Errno{w.Add(behind[0]), w.Close()}, api.OK, api.OK)
	if b := w.Next(); !bytes.Equal(b, whole(t, append(slices.Clone(ahead), behind[0]), n)) {
		t.Errorf("%v behind %d by %d: % x", e, len(ahead), n, b)
	}
}

// S1: the head from the beginning on, a frame once its block is ended, foot and tail once it is shut; each byte once.
func TestNext(t *testing.T) {
	l := plain(5)
	b, spans := written(t, by(l, 2))
	w := writer(t, 2)
	checkNext := func(what string, from, to, rows int) {
		t.Helper()
		if got := w.Next(); !bytes.Equal(got, b[from:to]) {
			t.Errorf("%s: % x; want % x", what, got, b[from:to])
		}
		if got := w.Next(); len(got) != 0 {
			t.Errorf("%s: again % x", what, got)
		}
		if got := w.Spans(); !sameSpans(got, spans[:rows]) {
			t.Errorf("%s: %v", what, got)
		}
	}
	foot := spans[2].At + spans[2].Len
	checkNext("new", 0, 8, 0)
	w.Add(l[0])
	checkNext("within a block", 8, 8, 0)
	w.Add(l[1])
	checkNext("behind a block", 8, spans[1].At, 1)
	w.Cut()
	checkNext("a cut of nothing", 8, 8, 1)
	w.Add(l[2])
	checkNext("within another block", 8, 8, 1)
	w.Add(l[3])
	w.Add(l[4])
	checkNext("within the third", spans[1].At, spans[2].At, 2)
	w.Cut()
	checkNext("cut", spans[2].At, foot, 3)
	w.Close()
	checkNext("shut", foot, len(b), 3)
	w.Close()
	checkNext("behind that", len(b), len(b), 3)
}

// S1: without a Next all waits; Close alone ends the last block.
func TestNextOnce(t *testing.T) {
	for count := range 70 {
		for _, n := range []int{1, 2, 7, 64} {
			w := writer(t, n)
			for _, e := range plain(count) {
				w.Add(e)
			}
			if got := len(w.Spans()); got != count/n {
				t.Errorf("%d rows of %d by %d", got, count, n)
			}
			w.Close()
			if got := w.Next(); !bytes.Equal(got, whole(t, plain(count), n)) {
				t.Errorf("%d by %d: % x", count, n, got)
			}
		}
	}
}

// S1: Cut with nothing in the making ends nothing: at the beginning, twice, and where a block has just been ended.
func TestCut(t *testing.T) {
	w := writer(t, 2)
	checkErrs(t, "cuts of nothing", []api.Errno{w.Cut(), w.Cut()}, api.OK, api.OK)
	if len(w.Spans()) != 0 {
		t.Error(w.Spans())
	}
	l := plain(4)
	checkErrs(t, "cuts", []api.Errno{w.Add(l[0]), w.Cut(), w.Cut(), w.Add(l[1]), w.Add(l[2]), w.Cut(), w.Add(l[3]), w.Cut(), w.Close()},
		make([]api.Errno, 9)...)
	b, spans := written(t, [][]api.Entry{l[:1], l[1:3], l[3:]})
	if got := w.Next(); !bytes.Equal(got, b) {
		t.Errorf("% x; want % x", got, b)
	}
	if got := w.Spans(); !sameSpans(got, spans) {
		t.Error(got)
	}
	w = writer(t, 64)
	checkErrs(t, "an empty one", []api.Errno{w.Cut(), w.Close()}, api.OK, api.OK)
	if got := w.Next(); !bytes.Equal(got, whole(t, nil, 1)) {
		t.Errorf("% x", got)
	}
}

// S1: behind Close every call answers ErrStreamShut ahead of all else, and changes nothing.
func TestShut(t *testing.T) {
	for count := range 4 {
		w := writer(t, 2)
		for _, e := range plain(count) {
			w.Add(e)
		}
		checkErrs(t, "Close", []api.Errno{w.Close()}, api.OK)
		want, spans := written(t, by(plain(count), 2))
		for _, e := range []api.Entry{entry("zz", ""), entry("\x00", ""), entry("", ""), {Key: make([]byte, 65)}, {Key: []byte("zz"), Value: make([]byte, 257)}} {
			checkErrs(t, "behind Close", []api.Errno{w.Add(e), w.Cut(), w.Close()}, api.ErrStreamShut, api.ErrStreamShut, api.ErrStreamShut)
		}
		if got := w.Next(); !bytes.Equal(got, want) {
			t.Errorf("% x", got)
		}
		checkErrs(t, "behind Next", []api.Errno{w.Add(entry("zz", "")), w.Cut(), w.Close()}, api.ErrStreamShut, api.ErrStreamShut, api.ErrStreamShut)
		if got := w.Next(); len(got) != 0 {
			t.Errorf("% x", got)
		}
		if !sameSpans(w.Spans(), spans) {
			t.Error(w.Spans())
		}
	}
}

// P8.2: whatever cuts, and however often Next is called, the bytes are those of the entries and the cuts; they are read as these, in whatever pieces they come.
func TestThereAndBack(t *testing.T) {
	d := dice(82)
	for range 150 {
		blocks := d.cut(d.entries(d.pick(0, 1, 2, 9, 40, 150)))
		want, spans := written(t, blocks)
		w := writer(t, 64)
		var got []byte
		for _, some := range blocks {
			for _, e := range some {
				if d.below(3) == 0 {
					got = append(got, w.Next()...)
				}
				if err := w.Add(e); err != api.OK {
					t.Fatal(err)
				}
			}
			w.Cut()
		}
		w.Close()
		got = append(got, w.Next()...)
		if !bytes.Equal(got, want) || !sameSpans(w.Spans(), spans) {
			t.Fatalf("%v: % x; want % x", blocks, got, want)
		}
		checkPieces(t, &d, got, answer{l: slices.Concat(blocks...), spans: spans})
	}
}

// checkPieces holds Readers of bytes that come in many kinds of pieces against what must be told.
func checkPieces(t *testing.T, d *dice, b []byte, want answer) {
	t.Helper()
	var gives []int
	for range 2 * len(b) {
		gives = append(gives, d.pick(0, 1, 1, 2, 3, 5, 30, 5000))
	}
	for i, x := range []api.Feed{{}, {Eager: true}, {Gives: ones(len(b))}, {Gives: ones(len(b)), Eager: true}, {Gives: gives}, {Gives: gives, Eager: true}} {
		x.Bytes = b
		if got := readAll(pipe.NewSource(x)); !got.same(want) {
			t.Fatalf("pieces %d: %v; want %v", i, got, want)
		}
	}
}
