package put_test

import (
	"math"
	"strings"
	"testing"

	"coppice/api"
	"coppice/arena"
)

// No such level at Level 0: ErrArenaNode, and no effect.
func TestNoSuchLevel(t *testing.T) {
	none := failed(api.ErrArenaNode)
	for _, level := range []int{-1, -33, math.MinInt} {
		low := leaf("", 0, "b", "1")
		low.Level = level
		start(t, tree{9, 1, []api.Node{low}}, two(), "b", "9").ends(down, none)
		start(t, small().set(1, low), two(), "b", "9").ends(down+along, none)
		start(t, small().set(1, low), two(), "m", "9").ends(down+along+plain, had)
	}
	start(t, small().set(3, inner(1, "", 0, nil)), two(), "b", "9").ends(down+"WORD", none)
	start(t, small().set(3, inner(1, "", 0, texts("m"))), two(), "z", "9").ends(down+"WORD", none)
	for _, id := range []int{0, 4, 9, 10, -1, math.MinInt, math.MaxInt} {
		x := small().set(3, inner(1, "", 0, texts("m"), 1, id))
		start(t, x, two(), "z", "9").ends(down+"WORD", none)
		start(t, x, two(), "b", "9").ends(down+along+plain, had)
		x = small().set(2, leaf("q", id, "m", "3"))
		start(t, x, two(), "z", "9").ends(down+along+"WORD", none)
		start(t, x, two(), "n", "9").ends(down+along+plain, fresh)
	}
}

// No such level above Level 0, for whatever reason: TOP, and the put is done if the root is another one.
func TestNoSuchLevelAbove(t *testing.T) {
	// The root leads nowhere for the key between the halves, d; the leaf is come to by another key's child.
	for _, id := range []int{0, 7, -1} {
		r := start(t, tree{9, 2, []api.Node{leaf("", 0, "b", "1", "d", "2"), inner(2, "", 0, texts("d"), 1, id)}}, two(), "c", "9")
		r.ends(down+along+split+down+"WORD TOP", fresh)
	}
	// The node of the level above goes while its word, its pieces and its word again are read.
	x := tree{9, 3, []api.Node{{}, leaf("", 0, "b", "1", "d", "2"), inner(1, "", 0, nil, 2)}}
	for _, names := range []string{"ROOT", "ROOT WORD", "ROOT WORD HEAD", "ROOT WORD HEAD BODY"} {
		r := start(t, x, two(), "c", "9")
		r.on(down + along + split + names)
		r.turn(replace)
		r.on(r.w.next)
		r.ends("TOP", fresh)
	}
	// A level that is jumped over: the root has one of 3, its children are leaves.
	r := start(t, small().set(3, inner(3, "", 0, texts("m"), 1, 2)), two(), "c", "9")
	r.ends(down+along+split+down+along+"TOP", fresh)
}

// replace makes an arena another one, that has slot 1 alone: no other number is a node's any more.
func replace(a *arena.Arena) {
	other, _ := arena.New(1)
	*a = *other
}

// give gives back a latch that a machine holds, behind its back.
func give(id int) func(a *arena.Arena) {
	return func(a *arena.Arena) { a.Unlock(id, true) }
}

// A call of the arena that answers an error, at each step that has one: the machine is through, with this error, and has no effect in this step. The root is slot 2, a leaf of b and d.
func TestArenaErrors(t *testing.T) {
	x := tree{9, 2, []api.Node{{}, leaf("", 0, "b", "1", "d", "2")}}
	up := tree{9, 3, []api.Node{{}, leaf("", 0, "b", "1", "d", "2"), inner(1, "", 0, texts("d"), 2, 4), {}}}
	one := tree{2, 2, x.nodes}
	for _, row := range []struct {
		tree  tree
		key   string
		ahead string // all names, up to the step that fails
		held  int    // the latch that is given back ahead of it; 0: there is none that is asked for
	}{
		{x, "b", down + "LOCK", 0},
		{x, "b", down + "LOCK BODY", 2},
		{x, "b", down + "LOCK BODY FREE", 2},
		{up, "c", down + along + split + down + "LOCK", 0},
		{up, "c", down + along + split + down + "LOCK KEEP", 3},
		{one, "c", down + "LOCK ALLOC GIVE", 2},
		{x, "c", down + "LOCK ALLOC QHEAD", 3},
		{x, "c", down + "LOCK ALLOC QHEAD QBODY", 3},
		{x, "c", down + "LOCK ALLOC QHEAD QBODY QFREE", 3},
		{x, "c", down + "LOCK ALLOC QHEAD QBODY QFREE PHEAD", 2},
		{x, "c", down + "LOCK ALLOC QHEAD QBODY QFREE PHEAD PBODY", 2},
		{x, "c", down + halves, 2},
		{x, "c", down + split + down + "TOP TALLOC THEAD", 4},
		{x, "c", down + split + down + "TOP TALLOC THEAD TBODY", 4},
		{x, "c", down + split + down + "TOP TALLOC THEAD TBODY TFREE", 4},
		{x, "c", down + split + down + crown, 0},
	} {
		list := strings.Fields(row.ahead)
		ahead, last := strings.Join(list[:len(list)-1], " "), list[len(list)-1]
		r := start(t, row.tree, two(), row.key, "9")
		r.on(ahead)
		r.turn(replace)
		r.ends(last, failed(api.ErrArenaNode))
		if row.held > 0 {
			r = start(t, row.tree, two(), row.key, "9")
			r.on(ahead)
			r.turn(give(row.held))
			r.ends(last, failed(api.ErrArenaLatch))
		}
	}
}

// At a level above the leaves it is the same.
func TestArenaErrorsAbove(t *testing.T) {
	for _, row := range []struct {
		ahead string
		held  int
	}{
		{"LOCK", 0},
		{"LOCK ALLOC QHEAD", 6},
		{"LOCK ALLOC QHEAD QBODY", 6},
		{"LOCK ALLOC QHEAD QBODY QFREE", 6},
		{"LOCK ALLOC QHEAD QBODY QFREE PHEAD", 4},
		{"LOCK ALLOC QHEAD QBODY QFREE PHEAD PBODY", 4},
		{halves, 4},
	} {
		list := strings.Fields(row.ahead)
		ahead, last := strings.Join(list[:len(list)-1], " "), list[len(list)-1]
		for _, do := range []struct {
			turn func(*arena.Arena)
			err  api.Errno
		}{{replace, api.ErrArenaNode}, {give(row.held), api.ErrArenaLatch}} {
			if row.held == 0 && do.err == api.ErrArenaLatch {
				continue
			}
			r := start(t, wide(), two(), "c", "9")
			r.on(down + along + split + down + ahead)
			r.turn(do.turn)
			r.ends(last, failed(do.err))
		}
	}
	r := start(t, small(), two(), "c", "9")
	r.on(down + along + split + down + "LOCK")
	r.turn(give(3))
	r.ends("BODY", failed(api.ErrArenaLatch))
	r = start(t, small(), two(), "c", "9")
	r.on(down + along + split + down + "LOCK BODY")
	r.turn(give(3))
	r.ends("FREE", failed(api.ErrArenaLatch))
	r = start(t, wide().of(5), two(), "c", "9")
	r.on(down + along + split + down + "LOCK ALLOC")
	r.turn(give(4))
	r.ends("GIVE", failed(api.ErrArenaLatch))
}

// With an error the answer is false, also of a key that had a value, and behind the step at which the put took effect.
func TestErrorBehindEffect(t *testing.T) {
	x := tree{9, 2, []api.Node{{}, leaf("", 0, "b", "1", "c", "2", "d", "3")}}
	r := start(t, x, two(), "c", "9")
	r.on(down + split + down + "TOP TALLOC THEAD")
	r.turn(give(4))
	r.ends("TBODY", failed(api.ErrArenaLatch))
	r = start(t, x, two(), "c", "9")
	r.on(down + split + down + "TOP TALLOC THEAD TBODY TFREE")
	r.turn(replace)
	r.ends("GROW", failed(api.ErrArenaNode))
	r = start(t, x, two(), "c", "9")
	r.on(down + "LOCK ALLOC QHEAD")
	r.turn(replace)
	r.ends("QBODY", failed(api.ErrArenaNode))
}

// Where the arena has no slots any more at ALLOC, or another root at TOP, that is no error of its own.
func TestNoErrors(t *testing.T) {
	x := tree{9, 2, []api.Node{{}, leaf("", 0, "b", "1", "d", "2")}}
	r := start(t, x, two(), "c", "9")
	r.on(down + "LOCK")
	r.turn(replace)
	r.on("ALLOC")
	r.ends("GIVE", failed(api.ErrArenaNode))
	r = start(t, x, two(), "c", "9")
	r.on(down + split + down)
	r.turn(replace)
	r.ends("TOP", fresh)
	r = start(t, x, two(), "c", "9")
	r.on(down + split + down + "TOP")
	r.turn(replace)
	r.ends("TALLOC", fresh)
}

// A way that leads round goes on as long as it is asked, step by step; so does a wait.
func TestRound(t *testing.T) {
	r := start(t, tree{9, 1, []api.Node{leaf("b", 1)}}, two(), "c", "9")
	r.on("ROOT " + strings.Repeat(along, 50))
	r.turn(func(a *arena.Arena) { lay(a, 1, leaf("", 0, "c", "1")) })
	r.ends(along+plain, had)
	r = start(t, lone(), two(), "c", "9")
	r.turn(func(a *arena.Arena) { hold(a, 1) })
	r.on("ROOT " + strings.Repeat("WORD ", 200))
	r.turn(func(a *arena.Arena) { a.Unlock(1, false) })
	r.ends(along+plain, fresh)
}
