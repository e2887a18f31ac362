package export_test

import (
	"math"
	"strings"
	"testing"

	"coppice/api"
	"coppice/export"
	"coppice/pipe"
	"coppice/stream"
)

// ARGS: a number of entries of a block that may not be, no writer, or both: one step, nothing is read, written or sent. All other numbers may be.
func TestArgs(t *testing.T) {
	refused := func(m *export.Machine, what string) {
		t.Helper()
		if how(m) != (ended{}) {
			t.Fatalf("%s: ahead of the step: %v", what, how(m))
		}
		for range 3 {
			if through, took := m.Step(); !through || took || how(m) != (ended{err: api.ErrArg}) {
				t.Fatalf("%s: %v, %v, %v", what, through, took, how(m))
			}
		}
	}
	for _, x := range []tree{lone(), small(), tall(), {9, 1, []api.Node{inner(1, "", 0, nil)}}} {
		a := x.lay(t)
		hold(a, 1)
		was := state(a)
		for _, block := range []int{math.MinInt, -65, -1, 0, 65, 66, 128, 256 + 1, 1<<32 + 1, math.MaxInt} {
			sink := pipe.NewSink(nil, 0)
			refused(export.New(a, block, sink), "block")
			if sink.Calls() != 0 {
				t.Fatalf("by %d: %d calls", block, sink.Calls())
			}
			refused(export.New(a, block, nil), "both")
			start(t, x, block, allTaken).ends("ARGS", api.ErrArg)
		}
		for _, block := range []int{1, 2, 63, 64} {
			refused(export.New(a, block, nil), "w nil")
		}
		if state(a) != was {
			t.Fatalf("%s; not %s", state(a), was)
		}
	}
	for block := 1; block <= 64; block++ {
		r := start(t, small(), block, allTaken)
		if name := r.w.name(); name != "PUSH" {
			t.Fatalf("by %d: %s", block, name)
		}
		if got := r.finish(); got.err != api.OK || got.entries != 3 {
			t.Fatalf("by %d: %v", block, got)
		}
	}
}

// The scan's error, on its way down and along: nothing more is written, but what went out stays; no foot is behind it.
func TestArenaNode(t *testing.T) {
	lost := api.ErrArenaNode
	for _, level := range []int{-1, -33, math.MinInt} {
		low := leaf("", 0, "b", "1")
		low.Level = level
		r := start(t, tree{9, 1, []api.Node{low}}, 1, allTaken)
		r.ends(push+down, lost)
		if how(r.m) != (ended{lost, 0, 8}) {
			t.Fatalf("%v", how(r.m))
		}
		start(t, small().set(1, low), 1, allTaken).ends(push+down+along, lost)
	}
	for _, id := range []int{0, 4, 9, 10, -1, math.MinInt, math.MaxInt} {
		start(t, small().set(3, inner(1, "", 0, nil, id)), 1, allTaken).ends(push+down+"word", lost)

		// Behind the first leaf: its entries were added, and its blocks went out, as far as they were ended.
		x := small().set(1, leaf("m", id, "b", "1", "d", "2"))
		for block, names := range map[int]string{1: push + "WORD", 2: push + "WORD", 3: "WORD", 64: "WORD"} {
			r := start(t, x, block, allTaken)
			r.ends(push+down+adds(along, 2)+names, lost)
			sure := beginning(small().entries()[:2], block)
			if how(r.m) != (ended{lost, 2, len(sure)}) || string(r.sink.took) != string(sure) {
				t.Fatalf("by %d: %v, %q", block, how(r.m), r.sink.took)
			}
			if _, err, at := stream.Parse(r.sink.took); err != api.ErrCursorShort || at != len(sure) {
				t.Fatalf("by %d: error %d at %d", block, err, at)
			}
		}
	}
	start(t, small().set(3, inner(1, "", 0, nil)), 1, allTaken).ends(push+down+"word", lost)
	// A Right that leads to a node of another level; to one that is a leaf by the time it is read once more.
	for _, level := range []int{1, 2, 33, math.MaxInt} {
		high := leaf("", 0, "x", "1")
		high.Level = level
		r := start(t, small().set(2, high), 2, allTaken)
		r.ends(push+down+adds(along, 2)+push+next, lost)
		if how(r.m) != (ended{lost, 2, 8 + blockBytes(small(), 2)}) {
			t.Fatalf("%v", how(r.m))
		}
		r = start(t, small().set(2, high), 2, allTaken)
		r.on(push + down + adds(along, 2) + push + "WORD HEAD")
		lay(r.a, 2, leaf("", 0, "m", "3"))
		r.on("BODY VALID")
		r.ends(adds(next, 1)+push, api.OK)
	}
	// A root of another level than its children's leads down all the same.
	start(t, small().set(3, inner(5, "", 0, texts("m"), 1, 2)), 64, allTaken).ends(push+down+adds(along, 2)+adds(next, 1)+push, api.OK)
	// A leaf whose Right is the root.
	start(t, small().set(1, leaf("m", 3, "b", "1")), 64, allTaken).ends(push+down+adds(along, 1)+next, lost)
}

// A call of the arena that answers an error, at each of the scan's steps; what waits to be handed on goes out ahead of it.
func TestArenaErrors(t *testing.T) {
	x := tree{9, 4, []api.Node{{}, leaf("m", 3, "b", "1", "d", "2"), leaf("", 0, "m", "3"), inner(1, "", 0, texts("m"), 2, 3)}}
	names := strings.Fields(push + down + adds(along, 2) + push + adds(next, 1) + push)
	for steps := 2; steps < len(names); steps++ {
		r := start(t, x, 2, allTaken)
		r.on(strings.Join(names[:steps], " "))
		replace(r.a)
		last, _, _ := strings.Cut(names[steps], "+")
		switch {
		case steps == len(names)-1:
			r.ends(push, api.OK)
		case last == "PUSH":
			r.ends(push+"WORD", api.ErrArenaNode)
		default:
			r.ends(last, api.ErrArenaNode)
		}
	}
}

// What is read is refused by the Writer: its error, at the step at which the leaf is taken. The entries ahead of it count; nothing of this step goes out.
func TestRefusedByTheWriter(t *testing.T) {
	bad := [][2]string{
		{strings.Repeat("x", 65), ""}, {strings.Repeat("x", 1000), "1"},
		{"x", strings.Repeat("v", 257)}, {strings.Repeat("x", 65), strings.Repeat("v", 257)},
	}
	for _, e := range bad {
		for block := 1; block <= 5; block++ {
			// In the first leaf: behind none, one, two; others behind it.
			for ahead := range 3 {
				l := append([]string{"b", "1", "d", "2"}[:2*ahead], e[0], e[1], "y", "9")
				r := start(t, lone(l...), block, allTaken)
				r.on(push + "root word head body")
				if !r.step() || how(r.m) != (ended{api.ErrLong, ahead, 8}) {
					t.Fatalf("by %d, behind %d: %v", block, ahead, how(r.m))
				}
				r.stays()
			}
			// In the second one: what the first one had is out, as far as its blocks were ended.
			r := start(t, small().set(2, leaf("", 0, "m", "3", e[0], e[1])), block, allTaken)
			sure := beginning(small().entries()[:2], block)
			if got := r.finish(); got != (ended{api.ErrLong, 3, len(sure)}) {
				t.Fatalf("by %d: %v; not %d bytes", block, got, len(sure))
			}
			// In one behind which there is no way on: the Writer's error comes first.
			r = start(t, small().set(1, leaf("m", 9, "b", "1", e[0], e[1])), block, allTaken)
			if got := r.finish(); got != (ended{api.ErrLong, 1, 8}) {
				t.Fatalf("by %d: %v", block, got)
			}
		}
	}
	// A key of no bytes is the least of all: it can only be the first one.
	r := start(t, lone("", "1", "b", "2"), 1, allTaken)
	r.on(push + "root word head body")
	if !r.step() || how(r.m) != (ended{api.ErrLong, 0, 8}) {
		t.Fatalf("%v", how(r.m))
	}
	// Such a one elsewhere, and keys that do not rise, the scan leaves out: nothing is refused.
	r = start(t, lone("d", "1", "", "2", "b", "3", "d", "4", "e", "5"), 1, allTaken)
	r.ends(push+adds(down, 2)+push, api.OK)
	if l, _, _ := stream.Parse(r.sink.took); list(l) != "d=1 e=5" {
		t.Fatalf("%s", list(l))
	}
}

// Leaves that lead round: the machine goes on as long as it is asked, step by step, and adds nothing twice.
func TestRound(t *testing.T) {
	r := start(t, small().set(2, leaf("z", 1, "m", "3")), 1, allTaken)
	r.on(push + down + adds(along, 2) + push + adds(next, 1) + push + strings.Repeat(next, 41))
	lay(r.a, 2, leaf("", 0, "m", "3"))
	if r.w.id == 1 {
		r.on(next)
	}
	r.ends(next+push, api.OK)
	if how(r.m).entries != 3 {
		t.Fatalf("%v", how(r.m))
	}
}
