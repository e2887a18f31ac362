package del_test

import (
	"math"
	"strings"
	"testing"

	"coppice/api"
	"coppice/arena"
)

// No such level: leaves below level 0, inner nodes that lead nowhere, numbers that are nobody's. ErrArenaNode, and no effect.
func TestNoSuchLevel(t *testing.T) {
	lost := failed(api.ErrArenaNode)
	for _, level := range []int{-1, -33, math.MinInt} {
		low := leaf("", 0, "b", "1")
		low.Level = level
		start(t, tree{9, 1, []api.Node{low}}, "b").ends(down, lost)
		start(t, small().set(1, low), "b").ends(down+along, lost)
		start(t, small().set(1, low), "m").ends(down+along+take, gone)
	}
	start(t, small().set(3, inner(1, "", 0, nil)), "b").ends(down+"WORD", lost)
	start(t, small().set(3, inner(1, "", 0, texts("m"))), "m").ends(down+"WORD", lost)
	for _, id := range []int{0, 4, 9, 10, -1, math.MinInt, math.MaxInt} {
		x := small().set(3, inner(1, "", 0, texts("m"), 1, id))
		start(t, x, "m").ends(down+"WORD", lost)
		start(t, x, "b").ends(down+along+take, gone)
		x = small().set(2, leaf("q", id, "m", "3", "z", "4"))
		start(t, x, "z").ends(down+along+"WORD", lost)
		start(t, x, "m").ends(down+along+take, gone)
	}
	start(t, small().set(3, inner(5, "", 0, texts("m"), 1, 2)), "m").ends(down+along+take, gone)
}

// No such level in a descent that begins anew, behind a LOCK that is false.
func TestNoSuchLevelAnew(t *testing.T) {
	r := start(t, lone("b", "1"), "b")
	r.on(down)
	low := leaf("", 0, "b", "1")
	low.Level = -1
	r.turn(func(a *arena.Arena) { lay(a, 1, low) })
	r.ends("LOCK "+down, failed(api.ErrArenaNode))
	r.is(tree{9, 1, []api.Node{low}})
}

// replace makes an arena another one, that has slot 1 alone: no other number is a node's any more.
func replace(a *arena.Arena) {
	other, _ := arena.New(1)
	*a = *other
}

// second has a root at slot 2, so that it goes when the arena is replaced.
func second() tree { return tree{9, 2, []api.Node{{}, leaf("", 0, "b", "1", "d", "2")}} }

// The arena answers an error while a node is read: that is no such level.
func TestErrorsOnTheWay(t *testing.T) {
	list := strings.Fields(down)
	for steps := 1; steps < len(list); steps++ {
		r := start(t, second(), "b")
		r.on(strings.Join(list[:steps], " "))
		r.turn(replace)
		r.ends(list[steps], failed(api.ErrArenaNode))
	}
	r := start(t, second(), "b")
	r.turn(replace)
	r.ends(none, missing)
}

// Another call of the arena that answers an error, at each step that has one: the machine is through, with this error, it has no effect in this step, and says of no key that it was there.
func TestArenaErrors(t *testing.T) {
	for _, x := range []struct {
		ahead, last string
		latch       bool // does it ask for the latch?
	}{
		{down, "LOCK", false},
		{down + "LOCK", "BODY", true},
		{down + "LOCK BODY", "FREE", true},
	} {
		r := start(t, second(), "b")
		r.on(x.ahead)
		r.turn(replace)
		r.ends(x.last, failed(api.ErrArenaNode))
		for _, changed := range []bool{false, true} {
			if !x.latch {
				continue
			}
			r = start(t, second(), "b")
			r.on(x.ahead)
			r.turn(func(a *arena.Arena) { a.Unlock(2, changed) })
			was := state(r.a)
			r.ends(x.last, failed(api.ErrArenaLatch))
			if state(r.a) != was {
				t.Fatalf("%s: %s\nnot %s", x.last, state(r.a), was)
			}
		}
	}
}

// A way that leads round goes on as long as it is asked, step by step; so does a wait.
func TestRound(t *testing.T) {
	r := start(t, tree{9, 1, []api.Node{leaf("b", 1)}}, "c")
	r.on("ROOT " + strings.Repeat(along, 50))
	r.turn(func(a *arena.Arena) { lay(a, 1, leaf("", 0, "c", "1")) })
	r.ends(along+take, gone)
	r = start(t, lone("c", "1"), "c")
	r.turn(func(a *arena.Arena) { hold(a, 1) })
	r.on("ROOT " + strings.Repeat("WORD ", 200))
	r.turn(func(a *arena.Arena) { a.Unlock(1, false) })
	r.ends(along+take, gone)
	r.is(lone())
}

// A word that is turned while the leaf is read: the descent begins anew by itself.
func TestTurnedBetween(t *testing.T) {
	for _, x := range []struct {
		laid  api.Node
		names string
		want  answer
	}{
		{leaf("", 0, "b", "9", "d", "2"), down + take, gone},
		{leaf("", 0, "d", "2"), none, missing},
	} {
		list := strings.Fields(down)
		for steps := 2; steps < len(list); steps++ {
			r := start(t, lone("b", "1", "d", "2"), "b")
			r.on(strings.Join(list[:steps], " "))
			r.turn(func(a *arena.Arena) { lay(a, 1, x.laid) })
			r.on(strings.Join(list[steps:], " "))
			if r.m.Again() != 1 {
				t.Fatalf("again: %d", r.m.Again())
			}
			r.ends(x.names, x.want)
			r.is(lone("d", "2"))
		}
	}
}
