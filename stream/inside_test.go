package stream

import (
	"testing"

	"coppice/api"
	"coppice/pipe"
)

// full are as many rows as there may be; the last one alone is written out, since so many blocks take long to make.
func full() rows {
	l := make(rows, api.MaxRows)
	l[len(l)-1] = api.Span{Last: []byte("m"), At: 8, Len: 20, Entries: 1}
	return l
}

func entry(key string) api.Entry { return api.Entry{Key: []byte(key)} }

// S1: where there are MaxRows rows no further block begins; what is wrong with the entry is told ahead of that.
func TestWriterMany(t *testing.T) {
	w := begun(2)
	w.rows = full()
	for _, c := range []struct {
		key string
		err api.Errno
	}{{"n", api.ErrFootMany}, {"m\x00", api.ErrFootMany}, {"m", api.ErrPairOrder}, {"a", api.ErrPairOrder}, {"", api.ErrLong}} {
		if err := w.Add(entry(c.key)); err != c.err {
			t.Errorf("Add of %q: %d; want %d", c.key, err, c.err)
		}
	}
	if err := w.Cut(); err != api.OK || len(w.rows) != api.MaxRows {
		t.Errorf("Cut: %d, %d rows", err, len(w.rows))
	}
	most := w.rows
	w = begun(2)
	w.rows = most[:api.MaxRows-1]
	for i, want := range []api.Errno{api.OK, api.OK, api.ErrFootMany, api.ErrFootMany} {
		if err := w.Add(entry(string(rune('n' + i)))); err != want {
			t.Errorf("Add %d: %d; want %d", i, err, want)
		}
	}
	if len(w.rows) != api.MaxRows {
		t.Errorf("%d rows", len(w.rows))
	}
}

// S3, 2: where there are MaxRows rows a further block's kind is ErrFootMany; another kind is what it ever is.
func TestReaderMany(t *testing.T) {
	most := full()
	for _, c := range []struct {
		rows rows
		rest string
		err  api.Errno
		at   int
	}{
		{most, "B", api.ErrFootMany, 8},
		{most, "B\x00", api.ErrFootMany, 8},
		{most, "G", api.ErrStreamKind, 8},
		{most, "F", api.ErrCursorShort, 9},
		{most[:api.MaxRows-1], "B", api.ErrCursorShort, 9},
	} {
		r := NewReader(pipe.NewSource(api.Feed{Bytes: []byte(headText + c.rest)}))
		r.rows = c.rows
		if l, is := r.Block(); is || len(l) != 0 {
			t.Errorf("%q: %v", c.rest, l)
		}
		if err, at := r.Fault(); err != c.err || at != c.at {
			t.Errorf("%q: %d, %d; want %d, %d", c.rest, err, at, c.err, c.at)
		}
	}
}
