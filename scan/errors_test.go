package scan_test

import (
	"math"
	"strings"
	"testing"

	"coppice/api"
	"coppice/arena"
	"coppice/scan"
)

// lost is how a machine ends that comes to no leaf.
func lost() answer { return failed(api.ErrArenaNode) }

// No such level: leaves below level 0, inner nodes that lead nowhere, numbers that are nobody's.
func TestNoSuchLevel(t *testing.T) {
	for _, level := range []int{-1, -33, math.MinInt} {
		low := leaf("", 0, "b", "1")
		low.Level = level
		start(t, tree{9, 1, []api.Node{low}}, "", "", 9).ends(down, lost())
		start(t, small().set(1, low), "", "", 9).ends(down+along, lost())
		start(t, small().set(1, low), "m", "", 9).ends(down+takes(along, 1), found("m=3"))
	}
	start(t, small().set(3, inner(1, "", 0, nil)), "", "", 9).ends(down+"word", lost())
	start(t, small().set(3, inner(1, "", 0, texts("m"))), "m", "", 9).ends(down+"word", lost())
	for _, id := range []int{0, 4, 9, 10, -1, math.MinInt, math.MaxInt} {
		x := small().set(3, inner(1, "", 0, texts("m"), 1, id))
		start(t, x, "m", "", 9).ends(down+"word", lost())
		start(t, x, "", "", 9).ends(down+takes(along, 2)+takes(next, 1), found("b=1 d=2 m=3"))
		x = small().set(1, leaf("c", id, "b", "1"))
		start(t, x, "c", "", 9).ends(down+along+"word", lost())
		start(t, x, "b", "c", 9).ends(down+takes(along, 1), found("b=1"))
	}
	start(t, small().set(3, inner(5, "", 0, texts("m"), 1, 2)), "m", "", 9).ends(down+takes(along, 1), found("m=3"))
}

// A Right that leads to a number that is not taken, or to none, though there is a High: the step that reads its word is the last one. What was taken is no answer then; it was fresh all the same.
func TestRightLeadsNowhere(t *testing.T) {
	for _, id := range []int{0, 4, 9, 10, -1, math.MinInt, math.MaxInt} {
		x := small().set(1, leaf("m", id, "b", "1", "d", "2"))
		r := start(t, x, "", "", 9)
		r.ends(down+takes(along, 2)+"WORD", lost())
		if fresh := list(r.w.taken); fresh != "b=1 d=2" {
			t.Fatalf("taken: %s", fresh)
		}
		start(t, x, "", "", 2).ends(down+takes(along, 2), found("b=1 d=2"))
		start(t, x, "", "m", 9).ends(down+takes(along, 2), found("b=1 d=2"))
		start(t, x, "", "m\x00", 9).ends(down+takes(along, 2)+"WORD", lost())
		start(t, x, "e", "", 9).ends(down+along+"WORD", lost())
	}
	// A slot that is taken meanwhile is one: its latch is waited for.
	r := start(t, small().set(1, leaf("m", 4, "b", "1", "d", "2")), "", "", 9)
	r.on(down + takes(along, 2))
	id, _ := r.a.Alloc()
	r.on("WORD WORD")
	r.a.SetBody(id, leaf("", 0, "x", "1").Body)
	r.a.Unlock(id, true)
	r.ends(takes(next, 1), found("b=1 d=2 x=1"))
	// A Right without a High does not count.
	start(t, small().set(1, leaf("", 2, "b", "1", "d", "2")), "", "", 9).ends(down+takes(along, 2), found("b=1 d=2"))
}

// Fresh behind an error: what was taken since it was called last, once.
func TestFreshWithAnError(t *testing.T) {
	x := tall().set(2, leaf("g", 99, "d", "2", "e", "", "f", "3"))
	names := strings.Fields(down + along + along + next + "WORD")
	for _, c := range []struct {
		ahead       int // behind so many steps Fresh is called first
		first, then string
	}{
		{0, "", "b=1 d=2 e= f=3"}, {12, "", "b=1 d=2 e= f=3"},
		{13, "b=1", "d=2 e= f=3"}, {16, "b=1", "d=2 e= f=3"},
		{17, "b=1 d=2 e= f=3", ""}, {18, "b=1 d=2 e= f=3", ""},
	} {
		m := scan.New(x.lay(t), nil, nil, 9)
		for steps := range len(names) {
			if steps == c.ahead {
				if got := list(m.Fresh()); got != c.first {
					t.Fatalf("behind %d steps: %s; not %s", c.ahead, got, c.first)
				}
			}
			if through, _ := m.Step(); through != (steps == len(names)-1) {
				t.Fatalf("behind %d steps: %v", steps+1, through)
			}
		}
		if c.ahead == len(names) {
			if got := list(m.Fresh()); got != c.first {
				t.Fatalf("behind the end: %s; not %s", got, c.first)
			}
		}
		got, again := list(m.Fresh()), list(m.Fresh())
		if got != c.then || again != "" || answered(m) != lost() {
			t.Fatalf("%d: %s, then %s; not %s; %v", c.ahead, got, again, c.then, answered(m))
		}
	}
}

// replace makes an arena another one, that has slot 1 alone: no other number is a node's any more.
func replace(a *arena.Arena) {
	other, _ := arena.New(1)
	*a = *other
}

// second has its root and both leaves behind slot 1, so that they go when the arena is replaced.
func second() tree {
	return tree{9, 4, []api.Node{{}, leaf("m", 3, "b", "1", "d", "2"), leaf("", 0, "m", "3"), inner(1, "", 0, texts("m"), 2, 3)}}
}

// A call of the arena that answers an error, at each of the steps: of the root, of the first leaf, of the next one. The machine is through then.
func TestArenaErrors(t *testing.T) {
	names := strings.Fields(down + takes(along, 2) + takes(next, 1))
	for steps := 1; steps < len(names); steps++ {
		r := start(t, second(), "", "", 9)
		r.on(strings.Join(names[:steps], " "))
		replace(r.a)
		last, _, _ := strings.Cut(names[steps], "+")
		r.ends(last, lost())
	}
	r := start(t, second(), "", "", 9)
	replace(r.a)
	r.ends(down, found(""))
	// While it waits for a latch, and when it reads once more.
	r = start(t, second(), "", "", 9)
	r.on(down + takes(along, 2))
	hold(r.a, 3)
	r.on("WORD WORD")
	replace(r.a)
	r.ends("WORD", lost())
	r = start(t, second(), "", "", 9)
	r.on(down + takes(along, 2) + "WORD HEAD")
	lay(r.a, 3, leaf("", 0, "m", "9"))
	r.on("BODY VALID")
	replace(r.a)
	r.ends("WORD", lost())
}

// What is read as a leaf has a Level above 0: that shows behind its reading. One that is read once more is not judged; one whose Level is below 0 is read as any other.
func TestLevelAboveLeaves(t *testing.T) {
	for _, level := range []int{1, 2, 32, 33, math.MaxInt} {
		high := leaf("", 0, "x", "1")
		high.Level = level
		x := small().set(2, high)
		r := start(t, x, "", "", 9)
		r.ends(down+takes(along, 2)+next, lost())
		if taken := list(r.w.taken); taken != "b=1 d=2" {
			t.Fatalf("taken: %s", taken)
		}
		start(t, x, "", "", 2).ends(down+takes(along, 2), found("b=1 d=2"))
		start(t, x, "", "m", 9).ends(down+takes(along, 2), found("b=1 d=2"))
		// It has become a leaf meanwhile.
		r = start(t, x, "", "", 9)
		r.on(down + takes(along, 2) + "WORD HEAD")
		lay(r.a, 2, leaf("", 0, "m", "3"))
		r.on("BODY VALID")
		r.ends(takes(next, 1), found("b=1 d=2 m=3"))
		// It was a leaf.
		r = start(t, small(), "", "", 9)
		r.on(down + takes(along, 2) + "WORD HEAD")
		lay(r.a, 2, high)
		r.on("BODY VALID")
		r.ends(next, lost())
	}
	// A leaf whose Right is the root.
	start(t, small().set(1, leaf("m", 3, "b", "1")), "", "", 9).ends(down+takes(along, 1)+next, lost())
	for _, level := range []int{-1, -33, math.MinInt} {
		low := leaf("", 0, "x", "1")
		low.Level = level
		start(t, small().set(2, low), "", "", 9).ends(down+takes(along, 2)+takes(next, 1), found("b=1 d=2 x=1"))
	}
}

// Leaves that lead round: the machine goes on as long as it is asked, step by step, and takes nothing twice.
func TestRound(t *testing.T) {
	r := start(t, tree{9, 1, []api.Node{leaf("z", 1, "b", "1", "d", "2")}}, "", "", 9)
	r.on(takes(down, 2) + strings.Repeat(next, 50))
	lay(r.a, 1, leaf("", 0, "b", "8", "d", "9", "e", "3"))
	r.ends(takes(next, 1), found("b=1 d=2 e=3"))

	x := small().set(2, leaf("z", 1, "m", "3"))
	r = start(t, x, "", "", 9)
	r.on(down + takes(along, 2) + takes(next, 1) + strings.Repeat(next, 21))
	lay(r.a, 2, leaf("", 0, "m", "3"))
	r.ends(next, found("b=1 d=2 m=3"))

	// A way down that leads round, and a wait.
	r = start(t, tree{9, 1, []api.Node{leaf("b", 1)}}, "c", "", 9)
	r.on("root " + strings.Repeat(along, 50))
	lay(r.a, 1, leaf("", 0, "c", "1"))
	r.ends(takes(along, 1), found("c=1"))
	r = start(t, small(), "", "", 9)
	r.on(down + takes(along, 2))
	hold(r.a, 2)
	r.on(strings.Repeat("WORD ", 200))
	r.a.Unlock(2, false)
	r.ends(takes(next, 1), found("b=1 d=2 m=3"))
}

// Leaves that lead back: what is not above all that was taken is left out, so what is taken rises; so is what is below lo, or not below hi.
func TestLeadsBack(t *testing.T) {
	x := small().set(2, leaf("", 0, "a", "7", "b", "8", "d", "9", "e", "3"))
	start(t, x, "", "", 9).ends(down+takes(along, 2)+takes(next, 1), found("b=1 d=2 e=3"))
	start(t, x, "c", "", 9).ends(down+takes(along, 1)+takes(next, 1), found("d=2 e=3"))
	start(t, x, "e", "", 9).ends(down+along+takes(next, 1), found("e=3"))
	start(t, x, "e", "z", 9).ends(down+along+takes(next, 1), found("e=3"))
	start(t, x, "", "", 3).ends(down+takes(along, 2)+takes(next, 1), found("b=1 d=2 e=3"))
	// Nothing is taken of the first leaf: those below lo stay out all the same.
	start(t, x, "d\x00", "", 9).ends(down+along+takes(next, 1), found("e=3"))
	start(t, x.set(1, leaf("m", 2)), "b", "", 9).ends(down+along+takes(next, 3), found("b=8 d=9 e=3"))
	// A High that lies behind the one ahead of it does not end the range.
	y := tree{9, 1, []api.Node{leaf("m", 2, "b", "1"), leaf("c", 3, "d", "2"), leaf("", 0, "e", "3")}}
	start(t, y, "", "k", 9).ends(takes(down, 1), found("b=1"))
	start(t, y, "", "n", 9).ends(takes(down, 1)+takes(next, 1)+takes(next, 1), found("b=1 d=2 e=3"))
}

// Leaves that are not right: keys that do not rise, or stand there twice, or are too many, too long, or of no bytes; fewer values than keys, and more. They are gone through as they stand.
func TestLeavesNotRight(t *testing.T) {
	for _, x := range []struct {
		keys, values [][]byte
		lo, hi       string
		most, count  int
		want         string
	}{
		{texts("d", "b", "e"), texts("1", "2", "3"), "", "", 9, 2, "d=1 e=3"},
		{texts("d", "b", "e"), texts("1", "2", "3"), "", "d", 9, 1, "b=2"},
		{texts("z", "b", "c"), texts("1", "2", "3"), "", "y", 9, 2, "b=2 c=3"},
		{texts("b", "b", "b", "c"), texts("1", "2", "3", "4"), "", "", 9, 2, "b=1 c=4"},
		{texts("b", "a", "c", "d"), texts("1", "2", "3", "4"), "", "", 2, 2, "b=1 c=3"},
		{texts("", "b"), texts("1", "2"), "", "", 9, 2, "=1 b=2"},
		{texts("", "", "b"), texts("1", "2", "3"), "", "", 9, 2, "=1 b=3"},
		{texts("b", "", "c"), texts("1", "2", "3"), "", "", 9, 2, "b=1 c=3"},
		{texts("", "b"), texts("1", "2"), "\x00", "", 9, 1, "b=2"},
		{texts("b", "c", "d"), texts("1"), "", "", 9, 3, "b=1 c= d="},
		{texts("b", "c"), nil, "c", "", 9, 1, "c="},
		{texts("b"), texts("1", "2", "3"), "", "", 9, 1, "b=1"},
		{nil, texts("1", "2"), "", "", 9, 0, ""},
	} {
		n := api.Node{Body: api.Body{Keys: x.keys, Values: x.values}}
		last := down
		if x.count > 0 {
			last = takes(down, x.count)
		}
		start(t, tree{9, 1, []api.Node{n}}, x.lo, x.hi, x.most).ends(last, found(x.want))
	}
	// Keys at or above the leaf's own High, kids in a leaf: nobody asks.
	n := leaf("c", 2, "b", "1", "c", "2", "x", "3")
	n.Kids = []int{7}
	start(t, small().set(1, n), "", "", 9).ends(down+takes(along, 3)+next, found("b=1 c=2 x=3"))
	long := strings.Repeat("k", 100)
	start(t, lone(long, strings.Repeat("v", 300)), "k", "", 9).ends(takes(down, 1), found(long+"="+strings.Repeat("v", 300)))
}
