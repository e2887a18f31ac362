package stream_test

import (
	"bytes"
	"slices"
	"testing"

	"coppice/api"
	"coppice/pipe"
	"coppice/stream"
)

// roomy is a text with spare room that is written full.
func roomy(b []byte) []byte {
	full := append(slices.Clone(b), bytes.Repeat([]byte{0x77}, 20)...)
	return full[:len(b)]
}

// stays: is what roomy made as it was, with its spare room?
func stays(now, was []byte) bool {
	return bytes.Equal(now[:len(was)+20], append(slices.Clone(was), bytes.Repeat([]byte{0x77}, 20)...))
}

// scribble writes over a list and its spare room.
func scribble(b []byte) {
	b = b[:cap(b)]
	for i := range b {
		b[i] ^= 0x5a
	}
}

func scribbleEntries(l []api.Entry) {
	for i := range l {
		scribble(l[i].Key)
		scribble(l[i].Value)
	}
	clear(l[:cap(l)])
}

func scribbleSpans(l []api.Span) {
	for i := range l {
		scribble(l[i].Last)
	}
	clear(l[:cap(l)])
}

// apart: does each key and value have memory of its own?
func apart(t *testing.T, what string, l []api.Entry) {
	t.Helper()
	was := copied(l)
	for i := range l {
		scribble(l[i].Key)
		if !bytes.Equal(l[i].Value, was[i].Value) {
			t.Errorf("%s: key and value %d share memory", what, i)
		}
		scribble(l[i].Value)
		if !sameList(l[i+1:], was[i+1:]) {
			t.Errorf("%s: entry %d shares memory with others", what, i)
		}
	}
}

// P3: what is added is not changed, nor its spare room, and not kept; what comes out is nobody else's.
func TestWriterKeepsApart(t *testing.T) {
	l := plain(7)
	b, spans := written(t, by(l, 3))
	w := writer(t, 3)
	var got []byte
	for _, e := range l {
		key, value := roomy(e.Key), roomy(e.Value)
		w.Add(api.Entry{Key: key, Value: value})
		if !stays(key, e.Key) || !stays(value, e.Value) {
			t.Errorf("%v became %v, %v", e, key, value)
		}
		scribble(key)
		scribble(value)
		next := w.Next()
		got = append(got, next...)
		scribble(next)
		scribbleSpans(w.Spans())
	}
	w.Close()
	next := w.Next()
	got = append(got, next...)
	scribble(next)
	scribbleSpans(w.Spans())
	if !bytes.Equal(got, b) || !sameSpans(w.Spans(), spans) {
		t.Errorf("% x; want % x", got, b)
	}
	if head := writer(t, 3).Next(); string(head) != "coppice\x01" {
		t.Errorf("another one's head is %q", head)
	}
	bad := roomy(nil)
	for _, e := range []api.Entry{{Key: bad}, {Key: roomy([]byte("a")), Value: roomy(make([]byte, 300))}} {
		key, value := slices.Clone(e.Key[:cap(e.Key)]), slices.Clone(e.Value[:cap(e.Value)])
		writer(t, 1).Add(e)
		if !bytes.Equal(key, e.Key[:cap(e.Key)]) || !bytes.Equal(value, e.Value[:cap(e.Value)]) {
			t.Errorf("%v was changed", e)
		}
	}
}

// P3: what Next told stays as it is while the writer goes on.
func TestNextStays(t *testing.T) {
	l := plain(40)
	w := writer(t, 3)
	var told [][]byte
	for _, e := range l {
		told = append(told, w.Next())
		w.Add(e)
	}
	w.Close()
	told = append(told, w.Next())
	if got := slices.Concat(told...); !bytes.Equal(got, whole(t, l, 3)) {
		t.Errorf("% x", got)
	}
}

// P3: Bytes changes nothing of its list, and keeps nothing.
func TestBytesKeepsApart(t *testing.T) {
	for _, l := range [][]api.Entry{nil, plain(7), append(plain(7), entry("\x00", ""))} {
		h := make([]api.Entry, len(l), len(l)+1)
		for i, e := range l {
			h[i] = api.Entry{Key: roomy(e.Key), Value: roomy(e.Value)}
		}
		h[:len(l)+1][len(l)] = entry("spare", "room")
		b, err, n := stream.Bytes(h, 3)
		if !sameList(h, l) || !same(h[:len(l)+1][len(l)], entry("spare", "room")) {
			t.Errorf("%v became %v", l, h)
		}
		for i, e := range l {
			if !stays(h[i].Key, e.Key) || !stays(h[i].Value, e.Value) {
				t.Errorf("spare room of %v was changed", e)
			}
		}
		was := bytes.Clone(b)
		scribbleEntries(h)
		if !bytes.Equal(b, was) {
			t.Error("the stream hangs on what was handed in")
		}
		scribble(b)
		if again, gotErr, gotN := stream.Bytes(l, 3); !bytes.Equal(again, was) || gotErr != err || gotN != n {
			t.Error("the stream is kept")
		}
	}
}

// P3: what a Reader tells is nobody else's: whoever writes over it changes nothing of what comes.
func TestReaderKeepsApart(t *testing.T) {
	for _, b := range some(t) {
		want := told(b)
		r := stream.NewReader(source(b))
		var got []api.Entry
		for i := 0; ; i++ {
			if i%2 == 0 {
				l, is := r.Block()
				if !is {
					break
				}
				got = append(got, copied(l)...)
				apart(t, "Block", l)
				clear(l[:cap(l)])
			} else {
				for k, v := range r.All() {
					got = append(got, copied([]api.Entry{{Key: k, Value: v}})...)
					apart(t, "All", []api.Entry{{Key: k, Value: v}})
					break
				}
			}
			scribbleSpans(r.Spans())
		}
		if err, at := r.Fault(); !sameList(got, want.l) || !sameSpans(r.Spans(), want.spans) || err != api.OK || at != 0 {
			t.Errorf("%v, %v, %d, %d", got, r.Spans(), err, at)
		}
		if l, is := r.Block(); len(l) != 0 || is {
			t.Error(l)
		}
	}
}

// keeper is a Reader that keeps the room that it was handed, and writes over it at each further call.
type keeper struct {
	s    *pipe.Source
	room [][]byte
}

func (k *keeper) Read(p []byte) (int, api.Errno) {
	for _, b := range k.room {
		scribble(b)
	}
	n, err := k.s.Read(p)
	k.room = append(k.room, p)
	return n, err
}

// P3: what was read hangs on nothing that the reader may have kept.
func TestReaderOfKeeper(t *testing.T) {
	b := whole(t, three(), 2)
	k := &keeper{s: source(b, 1, 2, 3, 4)}
	if got := readAll(k); !got.same(told(b)) {
		t.Errorf("%v", got)
	}
}

// P3: Parse and Open change nothing of the bytes, and keep nothing of them.
func TestStreamStays(t *testing.T) {
	for _, was := range append(some(t), whole(t, three(), 2)[:50], []byte("coppice"), nil) {
		b := roomy(was)
		l, err, _ := stream.Parse(b)
		f, openErr, _ := stream.Open(b)
		if !stays(b, was) {
			t.Fatalf("% x became % x", was, b)
		}
		scribble(b)
		if err == api.OK && !sameList(l, told(was).l) {
			t.Errorf("entries of % x hang on it", was)
		}
		apart(t, "Parse", l)
		clear(l[:cap(l)])
		if again, _, _ := stream.Parse(was); err == api.OK && !sameList(again, told(was).l) {
			t.Errorf("entries of % x are kept", was)
		}
		if openErr == api.OK {
			checkFileApart(t, f, told(was))
		}
	}
}

// checkFileApart holds a File against what it must have, and writes over all that it tells.
func checkFileApart(t *testing.T, f *stream.File, want answer) {
	t.Helper()
	for range 2 {
		if l := f.Spans(); !sameSpans(l, want.spans) {
			t.Errorf("%v", l)
		} else {
			scribbleSpans(l)
		}
		for _, e := range want.l {
			key := roomy(e.Key)
			v, is, err := f.Get(key)
			if !is || err != api.OK || !bytes.Equal(v, e.Value) || !stays(key, e.Key) {
				t.Errorf("Get of %q: %q, %v, %d", e.Key, v, is, err)
			}
			scribble(v)
			scribble(key)
		}
		var l []api.Entry
		for k, v := range f.Range(nil, nil) {
			l = append(l, copied([]api.Entry{{Key: k, Value: v}})...)
			apart(t, "Range", []api.Entry{{Key: k, Value: v}})
		}
		if !sameList(l, want.l) {
			t.Errorf("%v", l)
		}
	}
}

// P3: the bounds of a Range are not changed, and not kept: it goes by what they were when it was made.
func TestRangeBoundsStay(t *testing.T) {
	l := plain(10)
	f := file(t, whole(t, l, 3))
	lo, hi := roomy(even(2)), roomy(even(8))
	all := f.Range(lo, hi)
	if got := drawn(all); !sameList(got, l[2:8]) || !stays(lo, even(2)) || !stays(hi, even(8)) {
		t.Errorf("%v, %q, %q", got, lo, hi)
	}
	scribble(lo)
	scribble(hi)
	if got := drawn(all); !sameList(got, l[2:8]) {
		t.Errorf("it hangs on its bounds: %v", got)
	}
	for range all {
		scribble(lo)
		scribble(hi)
	}
}
