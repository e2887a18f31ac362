package stream_test

import (
	"slices"
	"testing"

	"coppice/api"
	"coppice/stream"
)

// blocksOf are three blocks of four, one and three entries, and their stream.
func blocksOf(t *testing.T) ([]api.Entry, []byte) {
	t.Helper()
	l := plain(8)
	b, _ := written(t, [][]api.Entry{l[:4], l[4:5], l[5:]})
	return l, b
}

// blockEnd is the number behind the last entry of the block that has the entry of a number.
func blockEnd(n int) int {
	for _, end := range []int{4, 5, 8} {
		if n < end {
			return end
		}
	}
	return 8
}

// take ranges over a Reader's All for so many entries, and leaves it then.
func take(r *stream.Reader, count int) []api.Entry {
	var l []api.Entry
	if count == 0 {
		return nil
	}
	for k, v := range r.All() {
		l = append(l, api.Entry{Key: k, Value: v})
		if len(l) == count {
			break
		}
	}
	return l
}

// S4: a range of All goes through all, to the end; the same range once more goes through nothing.
func TestAll(t *testing.T) {
	for _, b := range some(t) {
		r := stream.NewReader(source(b))
		all := r.All()
		if l := drawn(all); !sameList(l, told(b).l) {
			t.Errorf("%v", l)
		}
		if err, at := r.Fault(); err != api.OK || at != 0 || !sameSpans(r.Spans(), told(b).spans) {
			t.Errorf("%d, %d, %v", err, at, r.Spans())
		}
		if l := drawn(all); len(l) != 0 {
			t.Errorf("again %v", l)
		}
	}
}

// S4: a range that is left at each entry: Block goes on with the rest of the block, or with the next one; so does All.
func TestAllLeft(t *testing.T) {
	l, b := blocksOf(t)
	for n := range 9 {
		r := stream.NewReader(source(b))
		if got := take(r, n); !sameList(got, l[:n]) {
			t.Fatalf("%d: %v", n, got)
		}
		if err, at := r.Fault(); err != api.OK || at != 0 {
			t.Fatalf("%d: %d, %d", n, err, at)
		}
		at := n
		for at < 8 {
			got, is := r.Block()
			if !is || !sameList(got, l[at:blockEnd(at)]) {
				t.Fatalf("%d: Block at %d: %v, %v", n, at, got, is)
			}
			at = blockEnd(at)
		}
		if got, is := r.Block(); is || len(got) != 0 {
			t.Fatalf("%d: %v", n, got)
		}
		for m := range 9 - n {
			r := stream.NewReader(source(b))
			got := slices.Concat(take(r, n), take(r, m), drawn(r.All()))
			if !sameList(got, l) || len(r.Spans()) != 3 {
				t.Fatalf("%d, %d: %v", n, m, got)
			}
		}
	}
}

// S4: a range that is left asks for nothing more; the rows are those of the blocks that were read.
func TestAllAsks(t *testing.T) {
	l, b := blocksOf(t)
	spans := told(b).spans
	for n := 1; n <= len(l); n++ {
		s := source(b)
		r := stream.NewReader(s)
		take(r, n)
		rows := slices.Index([]int{4, 5, 8}, blockEnd(n-1)) + 1
		last := spans[rows-1]
		if !sameSpans(r.Spans(), spans[:rows]) || s.Left() != len(b)-last.At-last.Len {
			t.Errorf("%d: %v, %d bytes left", n, r.Spans(), s.Left())
		}
	}
}

// S4: Block within a range takes the rest of the block away from it, and further ones.
func TestBlockWithin(t *testing.T) {
	l, b := blocksOf(t)
	for n := range 8 {
		for count := range 5 {
			r := stream.NewReader(source(b))
			var outer, inner []api.Entry
			for k, v := range r.All() {
				outer = append(outer, api.Entry{Key: k, Value: v})
				if len(outer) != n+1 {
					continue
				}
				for range count {
					some, _ := r.Block()
					inner = append(inner, some...)
				}
			}
			at := n + 1
			for range count {
				at = max(at, blockEnd(at))
			}
			if !sameList(inner, l[n+1:at]) || !sameList(outer, slices.Concat(l[:n+1], l[at:])) {
				t.Errorf("%d, %d: %v, %v", n, count, inner, outer)
			}
			if err, at := r.Fault(); err != api.OK || at != 0 || len(r.Spans()) != 3 {
				t.Errorf("%d, %d: %d, %d", n, count, err, at)
			}
		}
	}
}

// S4: so does another range within it, left or not.
func TestAllWithin(t *testing.T) {
	l, b := blocksOf(t)
	for n := range 8 {
		for count := range 9 - n {
			r := stream.NewReader(source(b))
			var outer, inner []api.Entry
			for k, v := range r.All() {
				outer = append(outer, api.Entry{Key: k, Value: v})
				if len(outer) == n+1 {
					inner = take(r, count)
				}
			}
			at := min(8, n+1+count)
			if !sameList(inner, l[n+1:at]) || !sameList(outer, slices.Concat(l[:n+1], l[at:])) {
				t.Errorf("%d, %d: %v, %v", n, count, inner, outer)
			}
		}
	}
}

// S4: where a block is wrong, the entries of those ahead are gone through; the fault shows when the range comes there, and stays.
func TestAllFault(t *testing.T) {
	l, b := blocksOf(t)
	spans := told(b).spans
	for row, at := range []int{0, 4, 5} {
		s := spans[row]
		x := turned(b, s.At+4, b[s.At+4]^1)
		r := stream.NewReader(source(x))
		if got := take(r, at); !sameList(got, l[:at]) {
			t.Fatalf("%d: %v", row, got)
		}
		if err, place := r.Fault(); err != api.OK || place != 0 {
			t.Errorf("%d: %d, %d too early", row, err, place)
		}
		for range 3 {
			if got := drawn(r.All()); len(got) != 0 {
				t.Errorf("%d: %v", row, got)
			}
			if got, is := r.Block(); is || len(got) != 0 {
				t.Errorf("%d: %v", row, got)
			}
			if err, place := r.Fault(); err != api.ErrCrcSum || place != s.At+s.Len-4 || !sameSpans(r.Spans(), spans[:row]) {
				t.Errorf("%d: %d, %d, %v", row, err, place, r.Spans())
			}
		}
	}
	for size := range len(b) {
		r := stream.NewReader(source(b[:size]))
		if got := drawn(r.All()); !sameList(got, told(b[:size]).l) {
			t.Fatalf("%d: %v", size, got)
		}
	}
}

// S4: a panic of whoever ranges goes on to them; the entries behind stay.
func TestAllPanic(t *testing.T) {
	l, b := blocksOf(t)
	r := stream.NewReader(source(b))
	func() {
		defer func() {
			if x := recover(); x != "mine" {
				t.Errorf("recovered %v", x)
			}
		}()
		for range r.All() {
			panic("mine")
		}
	}()
	if got := drawn(r.All()); !sameList(got, l[1:]) {
		t.Errorf("%v", got)
	}
}
