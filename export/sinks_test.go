package export_test

import (
	"math"
	"slices"
	"strconv"
	"strings"
	"testing"

	"coppice/api"
	"coppice/export"
	"coppice/pipe"
	"coppice/stream"
)

// times is a name that stands there so often.
func times(name string, count int) string { return strings.Repeat(name, count) }

// Sinks that take some of what they are handed: the rest is handed to them again, in the next steps, ahead of any further entry.
func TestTakesSome(t *testing.T) {
	all := len(whole(small().entries(), 2))
	for _, x := range []struct {
		takes []int
		names string
	}{
		{nil, push + down + adds(along, 2) + push + adds(next, 1) + push},
		{[]int{3}, push + push + down + adds(along, 2) + push + adds(next, 1) + push},
		{[]int{7, 1, 1}, push + push + down + adds(along, 2) + push + push + adds(next, 1) + push},
		{[]int{8, 8, 8, 8}, push + down + adds(along, 2) + times(push, 3) + adds(next, 1) + push},
		{[]int{0, 8, 0, 0, 8}, push + push + down + adds(along, 2) + times(push, 4) + adds(next, 1) + push},
		{[]int{-1, 9, 99}, push + push + down + adds(along, 2) + push + adds(next, 1) + push},
		{slices.Repeat([]int{1}, all), times(push, 8) + down + adds(along, 2) + times(push, blockBytes(small(), 2)) + adds(next, 1) + times(push, all-8-blockBytes(small(), 2))},
	} {
		r := start(t, small(), 2, asTold(x.takes, 0))
		r.ends(x.names, api.OK)
		if how(r.m) != (ended{api.OK, 3, all}) || string(r.sink.took) != string(whole(small().entries(), 2)) {
			t.Fatalf("%d: %v, %q", x.takes, how(r.m), r.sink.took)
		}

		sink := pipe.NewSink(x.takes, 0)
		m := export.New(small().lay(t), 2, sink)
		for through := false; !through; through, _ = m.Step() {
		}
		if string(sink.Bytes()) != string(r.sink.took) || how(m) != how(r.m) || sink.Calls() != len(r.sink.handed) {
			t.Fatalf("%d: %v, %q, %d calls", x.takes, how(m), sink.Bytes(), sink.Calls())
		}
	}
}

// blockBytes are those of the frame of a stream's first block.
func blockBytes(x tree, block int) int {
	b := whole(x.entries(), block)
	return 2 + int(b[9]) + 4
}

// heavy are so many entries with the longest values.
func heavy(count int) []string {
	l := some(count)
	for i := 1; i < len(l); i += 2 {
		l[i] = strings.Repeat("v", 256)
	}
	return l
}

// More waits than is handed on in one call (4096 bytes): a great block, many blocks of one leaf, a great foot.
func TestManyBytes(t *testing.T) {
	keys := func(count int) []string { // a foot has all of them
		l := some(count)
		for i := 0; i < len(l); i += 2 {
			l[i] += strings.Repeat("k", 60)
		}
		return l
	}
	for _, x := range []struct {
		tree  tree
		block int
		least int // pushes
	}{
		{lone(heavy(64)...), 64, 4}, {lone(heavy(64)...), 8, 4}, {lone(heavy(64)...), 1, 5},
		{lone(heavy(16)...), 64, 2}, {lone(keys(300)...), 1, 8}, {row(900, 3), 1, 5},
	} {
		b := whole(x.tree.entries(), x.block)
		for _, f := range []mood{allTaken, asTold([]int{8, 4095, 1, 0, 4096, 1}, 0), asTold([]int{1, 1, 1, 5, math.MaxInt}, 0)} {
			r := start(t, x.tree, x.block, f)
			if got := r.finish(); got != (ended{api.OK, len(x.tree.entries()), len(b)}) || string(r.sink.took) != string(b) {
				t.Fatalf("%v", got)
			}
			most := 0
			for _, p := range r.sink.handed {
				most = max(most, len(p))
			}
			if most != 4096 || len(r.sink.handed) < x.least {
				t.Fatalf("%d calls, %d bytes at most", len(r.sink.handed), most)
			}
		}
	}
	// Just 4096, one less, one more: how many calls one block takes. (Its frame is 300 bytes and some for each heavy entry, so its length is brought about by the last value.)
	for last := range 257 {
		l := heavy(16)
		l[len(l)-1] = strings.Repeat("v", last)
		x := tree{9, 1, []api.Node{leaf("z", 2, l...), leaf("", 0)}}
		frame := len(beginning(x.entries(), 16)) - 8
		calls := 1
		if frame > 4096 {
			calls = 2
		}
		r := start(t, x, 16, allTaken)
		r.on(push + adds(down, 16) + times(push, calls) + "WORD")
		if frame <= 4096 && last == 256 || frame > 4096 && last == 0 {
			t.Fatalf("%d bytes", frame)
		}
	}
}

// A sink that fails at its call of each number: the answer is its error; what it took ahead of it is a beginning, and the tree is as it was (T8).
func TestFails(t *testing.T) {
	for _, x := range []tree{lone(), ab(), small(), tall()} {
		for _, takes := range [][]int{nil, {3}, {8, 5, 0, 1}, slices.Repeat([]int{1}, 500)} {
			calls := 1
			for fail := 1; fail <= calls; fail++ {
				whole := start(t, x, 2, asTold(takes, 0))
				whole.finish()
				calls = len(whole.sink.handed)

				r := start(t, x, 2, asTold(takes, fail))
				was := state(r.a)
				got := r.finish()
				if got.err != api.ErrPipeBroken || len(r.sink.handed) != fail || got.bytes != len(r.sink.took) {
					t.Fatalf("%d of %d calls: %v", fail, calls, got)
				}
				if !strings.HasPrefix(string(whole.sink.took), string(r.sink.took)) {
					t.Fatalf("%q; not a beginning of %q", r.sink.took, whole.sink.took)
				}
				if state(r.a) != was || len(r.a.Held()) > 0 {
					t.Fatalf("%s; not %s", state(r.a), was)
				}
				if fail == 1 && got != (ended{err: api.ErrPipeBroken}) || fail == calls && got.entries != len(x.entries()) {
					t.Fatalf("%d of %d calls: %v", fail, calls, got)
				}
			}
			// One call behind the last is never made.
			if got := start(t, x, 2, asTold(takes, calls+1)).finish(); got.err != api.OK {
				t.Fatalf("%v", got)
			}
		}
	}
	start(t, small(), 2, asTold(nil, 1)).ends(push, api.ErrPipeBroken)
	start(t, small(), 2, asTold(nil, 2)).ends(push+down+adds(along, 2)+push, api.ErrPipeBroken)
	start(t, small(), 2, asTold(nil, 3)).ends(push+down+adds(along, 2)+push+adds(next, 1)+push, api.ErrPipeBroken)
	start(t, small(), 2, asTold([]int{1, 1}, 3)).ends(push+push+push, api.ErrPipeBroken)
	start(t, small(), 2, asTold(nil, -1)).ends(push+down+adds(along, 2)+push+adds(next, 1)+push, api.OK)
}

// Calls that take nothing: 16 running are an error, 15 are not; a call that takes a byte breaks the run; and the run goes on over the entries that are found between, as nothing was taken since.
func TestIdle(t *testing.T) {
	nothing := func(count int, then ...int) []int { return append(make([]int, count), then...) }
	begin := push + down + adds(along, 2)
	start(t, small(), 2, asTold(nothing(16), 0)).ends(times(push, 16), api.ErrPipeIdle)
	start(t, small(), 2, asTold(nothing(15), 0)).ends(times(push, 15)+begin+push+adds(next, 1)+push, api.OK)
	start(t, small(), 2, asTold(append(nothing(15, 1), nothing(15, 1)...), 0)).ends(times(push, 32)+begin+push+adds(next, 1)+push, api.OK)
	start(t, small(), 2, asTold(append(nothing(15, 1), nothing(16)...), 0)).ends(times(push, 32), api.ErrPipeIdle)
	start(t, small(), 2, asTold(append([]int{8}, nothing(16)...), 0)).ends(begin+times(push, 16), api.ErrPipeIdle)
	start(t, small(), 2, asTold(append([]int{8, 99}, nothing(16)...), 0)).ends(begin+push+adds(next, 1)+times(push, 16), api.ErrPipeIdle)
	// The last byte comes when 15 calls took none.
	all := len(whole(small().entries(), 2)) - 8 - blockBytes(small(), 2)
	last := append([]int{8, 99, all - 1}, nothing(15)...)
	start(t, small(), 2, asTold(last, 0)).ends(begin+push+adds(next, 1)+times(push, 17), api.OK)
	start(t, small(), 2, asTold(append(last, 0), 0)).ends(begin+push+adds(next, 1)+times(push, 17), api.ErrPipeIdle)
}

// A writer that tells a number that can't be: below 0, or above what it was handed, with an error or without: ErrPipeBad, and nothing of that call counts.
func TestBadNumbers(t *testing.T) {
	for _, err := range []api.Errno{api.OK, api.ErrPipeBroken, api.ErrArg, -7} {
		for _, number := range []func(int) int{
			func(int) int { return -1 },
			func(int) int { return math.MinInt },
			func(handed int) int { return handed + 1 },
			func(int) int { return 4097 },
			func(int) int { return math.MaxInt },
		} {
			bad := func(call int, handed int) (int, api.Errno) { return number(handed), err }
			r := start(t, small(), 2, bad)
			r.ends(push, api.ErrPipeBad)
			if how(r.m) != (ended{err: api.ErrPipeBad}) {
				t.Fatalf("%v", how(r.m))
			}
			r = start(t, small(), 2, mood(allTaken).at(2, bad))
			r.ends(push+down+adds(along, 2)+push, api.ErrPipeBad)
			if how(r.m) != (ended{api.ErrPipeBad, 2, 8}) {
				t.Fatalf("%v", how(r.m))
			}
			r = start(t, small(), 2, mood(allTaken).at(3, bad))
			r.ends(push+down+adds(along, 2)+push+adds(next, 1)+push, api.ErrPipeBad)
			if how(r.m) != (ended{api.ErrPipeBad, 3, 8 + blockBytes(small(), 2)}) {
				t.Fatalf("%v", how(r.m))
			}
		}
	}
}

// A writer that tells an error and a number both: the bytes count, the error ends it; be it that none are left then, that it is ErrPipeEnd, or of any number. What it told as the number of all bytes of the whole does not make it well.
func TestErrorWithNumber(t *testing.T) {
	for _, err := range []api.Errno{api.ErrPipeBroken, api.ErrPipeEnd, api.ErrPipeIdle, api.ErrArg, api.ErrLong, 1000, -1, math.MinInt, math.MaxInt} {
		for call, ahead := range map[int]ended{1: {}, 2: {entries: 2, bytes: 8}, 3: {entries: 3, bytes: 8 + blockBytes(small(), 2)}} {
			for _, part := range []int{0, 1, 2} {
				took := 0
				both := func(call int, handed int) (int, api.Errno) {
					took = handed * part / 2
					return took, err
				}
				r := start(t, small(), 2, mood(allTaken).at(call, both))
				want := ended{err, ahead.entries, ahead.bytes}
				got := r.finish()
				want.bytes += took
				if got != want || len(r.sink.handed) != call {
					t.Fatalf("error %d at call %d: %v; not %v", err, call, got, want)
				}
			}
		}
	}
}

// A sink takes what it takes: what it was handed is a copy, which it may change, with its spare room, at once or later.
func TestHandedOnChangedLater(t *testing.T) {
	for _, takes := range [][]int{nil, {3, 1, 0, 5}, slices.Repeat([]int{1}, 600), slices.Repeat([]int{40}, 20)} {
		for _, x := range []tree{small(), tall(), lone(heavy(40)...)} {
			w := &spoiler{sink: pipe.NewSink(takes, 0)}
			m := export.New(x.lay(t), 3, w)
			for through := false; !through; {
				through, _ = m.Step()
				w.spoil()
			}
			if m.Answer() != api.OK || string(w.sink.Bytes()) != string(whole(x.entries(), 3)) {
				t.Fatalf("%v: %q", how(m), w.sink.Bytes())
			}
		}
	}
}

// spoiler hands on to a sink, and keeps what it was handed, to write all over it.
type spoiler struct {
	sink *pipe.Sink
	kept [][]byte
}

func (w *spoiler) Write(p []byte) (int, api.Errno) {
	n, err := w.sink.Write(p)
	w.kept = append(w.kept, p)
	w.spoil()
	return n, err
}

func (w *spoiler) spoil() {
	for _, p := range w.kept {
		p = p[:cap(p)]
		for i := range p {
			p[i] = '#'
		}
	}
}

// A writer may ask, while it is called, how far the machine is: the bytes of that call do not count yet.
func TestAskedByItsWriter(t *testing.T) {
	var m *export.Machine
	var seen []string
	w := &moody{mood: func(call int, handed int) (int, api.Errno) {
		entries, bytes := m.Sent()
		seen = append(seen, strconv.Itoa(int(m.Answer()))+" "+strconv.Itoa(entries)+" "+strconv.Itoa(bytes))
		return handed, api.OK
	}}
	m = export.New(small().lay(t), 2, w)
	for through := false; !through; through, _ = m.Step() {
	}
	if got := strings.Join(seen, ", "); got != "0 0 0, 0 2 8, 0 3 "+strconv.Itoa(8+blockBytes(small(), 2)) {
		t.Fatalf("%s", got)
	}
	if l, err, _ := stream.Parse(w.took); err != api.OK || list(l) != "b=1 d=2 m=3" {
		t.Fatalf("%s, %d", list(l), err)
	}
}
