package arena_test

import (
	"math"
	"slices"
	"testing"

	"coppice/api"
	"coppice/arena"
)

// The rows of the chapter's table of examples.
func TestExamples(t *testing.T) {
	a := newArena(t, 2, 1)
	if id, err := a.Alloc(); id != 2 || err != api.OK {
		t.Errorf("Alloc: %d, %d", id, err)
	}
	if id, err := a.Alloc(); id != 0 || err != api.ErrFull {
		t.Errorf("Alloc: %d, %d", id, err)
	}
	wantWord(t, a, 2, 1)
	wantLock(t, a, 2, 1, false)
	wantUnlock(t, a, 2, true, api.OK)
	wantWord(t, a, 2, 2)
	wantLock(t, a, 2, 0, false)
	wantLock(t, a, 2, 2, true)
	wantLock(t, a, 2, 2, false)
	wantWord(t, a, 2, 3)
	wantUnlock(t, a, 2, false, api.OK)
	wantWord(t, a, 2, 2)
	if err := a.SetHead(2, api.Head{Level: 1}); err != api.ErrArenaLatch {
		t.Errorf("SetHead: %d", err)
	}
	if _, err := a.Head(3); err != api.ErrArenaNode {
		t.Errorf("Head: %d", err)
	}
	if _, err := a.Word(0); err != api.ErrArenaNode {
		t.Errorf("Word: %d", err)
	}
	if is, err := a.Grow(2, 1); is || err != api.OK {
		t.Errorf("Grow(2, 1): %v, %d", is, err)
	}
	if is, err := a.Grow(1, 2); !is || err != api.OK || a.Root() != 2 {
		t.Errorf("Grow(1, 2): %v, %d; root %d", is, err, a.Root())
	}
}

// New: at, below and above each bound.
func TestNewBounds(t *testing.T) {
	for _, nodes := range []int{math.MinInt, -1 << 32, -65536, -1, 0, 65537, 1 << 17, 1<<32 + 1, math.MaxInt} {
		if a, err := arena.New(nodes); a != nil || err != api.ErrArg {
			t.Errorf("New(%d): %v, %d", nodes, a, err)
		}
	}
	for _, nodes := range []int{1, 2, 3, 1000, 65535, 65536} {
		a := newArena(t, nodes, 1)
		if a.Used() != 1 || a.Left() != nodes-1 || a.Root() != 1 {
			t.Errorf("New(%d): used %d, left %d, root %d", nodes, a.Used(), a.Left(), a.Root())
		}
		wantWord(t, a, 1, 0)
		wantHead(t, a, 1, api.Head{})
		wantBody(t, a, 1, api.Body{})
		wantHeld(t, a)
	}
}

// New: arenas know nothing of one another.
func TestNewApart(t *testing.T) {
	a, b := newArena(t, 3, 2), newArena(t, 3, 1)
	stays(t, b, "another arena's calls", func() {
		wantLock(t, a, 1, 0, true)
		a.SetHead(1, api.Head{Level: 3})
		a.SetBody(1, api.Body{Kids: []int{4}})
		a.Alloc()
		a.Grow(1, 2)
	})
}

// Alloc: up to the last slot and behind it; each slot is zero, and held.
func TestAlloc(t *testing.T) {
	for _, nodes := range []int{1, 2, 3, 10, 65535, 65536} {
		a := newArena(t, nodes, 1)
		for id := 2; id <= nodes; id++ {
			if got, err := a.Alloc(); got != id || err != api.OK || a.Used() != id || a.Left() != nodes-id {
				t.Fatalf("Alloc of %d: %d, %d; used %d, left %d", nodes, got, err, a.Used(), a.Left())
			}
			wantWord(t, a, id, 1)
			wantHead(t, a, id, api.Head{})
			wantBody(t, a, id, api.Body{})
		}
		for range 3 {
			if id, err := a.Alloc(); id != 0 || err != api.ErrFull || a.Used() != nodes || a.Left() != 0 {
				t.Fatalf("Alloc behind %d: %d, %d; used %d, left %d", nodes, id, err, a.Used(), a.Left())
			}
		}
		if a.Root() != 1 {
			t.Errorf("root: %d", a.Root())
		}
	}
}

// Alloc: the slots that are taken stay as they were, also where there is no slot.
func TestAllocLeavesOthers(t *testing.T) {
	a := newArena(t, 3, 2)
	a.SetHead(2, api.Head{Level: 1, High: []byte("m"), Right: 1})
	a.SetBody(2, api.Body{Keys: texts("k"), Kids: []int{1, 3}})
	wantUnlock(t, a, 2, true, api.OK)
	wantLock(t, a, 1, 0, true)
	a.Grow(1, 2)
	a.Alloc()
	wantHead(t, a, 2, api.Head{Level: 1, High: []byte("m"), Right: 1})
	wantBody(t, a, 2, api.Body{Keys: texts("k"), Kids: []int{1, 3}})
	wantWord(t, a, 1, 1)
	wantWord(t, a, 2, 2)
	wantHeld(t, a, 1, 3)
	if a.Root() != 2 {
		t.Errorf("root: %d", a.Root())
	}
	stays(t, a, "Alloc without room", func() { a.Alloc() })
}

// Each call that takes an id: below 1, just behind Used, behind the last slot. Nothing is told, and nothing changed.
func TestNoSuchNode(t *testing.T) {
	for _, size := range []struct{ nodes, used int }{{1, 1}, {2, 1}, {2, 2}, {5, 1}, {5, 3}, {5, 5}, {65536, 2}} {
		a := newArena(t, size.nodes, size.used)
		ids := []int{math.MinInt, -1 << 32, -65536, -size.used, -2, -1, 0, size.used + 1, size.nodes + 1, 65537, 1<<32 + 1, math.MaxInt}
		for _, id := range ids {
			checkNoSuchNode(t, a, id)
		}
		if size.used < size.nodes {
			checkNoSuchNode(t, a, size.nodes)
			id, _ := a.Alloc()
			wantWord(t, a, id, 1)
		}
	}
}

func checkNoSuchNode(t *testing.T, a *arena.Arena, id int) {
	t.Helper()
	stays(t, a, "calls of no node", func() {
		if word, err := a.Word(id); word != 0 || err != api.ErrArenaNode {
			t.Errorf("Word(%d): %d, %d", id, word, err)
		}
		for _, word := range []uint64{0, 1, 2, math.MaxUint64} {
			if is, err := a.Lock(id, word); is || err != api.ErrArenaNode {
				t.Errorf("Lock(%d, %d): %v, %d", id, word, is, err)
			}
		}
		for _, changed := range []bool{false, true} {
			wantUnlock(t, a, id, changed, api.ErrArenaNode)
		}
		if h, err := a.Head(id); toldHead(h) != toldHead(api.Head{}) || err != api.ErrArenaNode {
			t.Errorf("Head(%d): %s, %d", id, toldHead(h), err)
		}
		if b, err := a.Body(id); toldBody(b) != toldBody(api.Body{}) || err != api.ErrArenaNode {
			t.Errorf("Body(%d): %s, %d", id, toldBody(b), err)
		}
		if err := a.SetHead(id, api.Head{Level: 1}); err != api.ErrArenaNode {
			t.Errorf("SetHead(%d): %d", id, err)
		}
		if err := a.SetBody(id, api.Body{Kids: []int{1}}); err != api.ErrArenaNode {
			t.Errorf("SetBody(%d): %d", id, err)
		}
		for _, old := range []int{1, 2, id} {
			if is, err := a.Grow(old, id); is || err != api.ErrArenaNode {
				t.Errorf("Grow(%d, %d): %v, %d", old, id, is, err)
			}
		}
	})
}

// Lock: with the word, with another one, with an odd one, of a held latch.
func TestLock(t *testing.T) {
	a := newArena(t, 3, 1)
	for word := uint64(0); word < 40; word += 2 {
		others := []uint64{word + 1, word - 1, word + 2, word - 2, word + 1<<32, math.MaxUint64, math.MaxUint64 - 1, 1 << 63}
		for _, other := range others {
			wantLock(t, a, 1, other, false)
		}
		wantLock(t, a, 1, word, true)
		for _, other := range append(others, word) {
			wantLock(t, a, 1, other, false)
		}
		wantHeld(t, a, 1)
		wantUnlock(t, a, 1, true, api.OK)
		wantWord(t, a, 1, word+2)
	}
}

// Lock: the latch of a slot that was just taken is held, whatever word is told.
func TestLockOfNew(t *testing.T) {
	a := newArena(t, 2, 2)
	for _, word := range []uint64{0, 1, 2, 3, math.MaxUint64} {
		wantLock(t, a, 2, word, false)
	}
	wantUnlock(t, a, 2, false, api.OK)
	wantWord(t, a, 2, 0)
	wantLock(t, a, 2, 0, true)
}

// Unlock: with true the word is one more, with false one less; a latch that is not held is not given back.
func TestUnlock(t *testing.T) {
	a := newArena(t, 2, 1)
	word := uint64(0)
	for i, changed := range []bool{true, false, false, true, true, false, true, true} {
		for _, with := range []bool{false, true} {
			stays(t, a, "Unlock of a free latch", func() { wantUnlock(t, a, 1, with, api.ErrArenaLatch) })
		}
		wantLock(t, a, 1, word, true)
		wantUnlock(t, a, 1, changed, api.OK)
		if changed {
			word += 2
		}
		wantWord(t, a, 1, word)
		if a.Used() != 1 || a.Left() != 1 || a.Root() != 1 {
			t.Errorf("turn %d: used %d, left %d, root %d", i, a.Used(), a.Left(), a.Root())
		}
	}
	wantHeld(t, a)
}

// SetHead and SetBody without the latch: refused, and nothing is changed.
func TestSetWithoutLatch(t *testing.T) {
	a := newArena(t, 3, 3)
	wantUnlock(t, a, 2, true, api.OK)
	for _, id := range []int{1, 2} {
		stays(t, a, "a latch that is not held", func() {
			if err := a.SetHead(id, api.Head{Level: 1, High: []byte("m"), Right: 2}); err != api.ErrArenaLatch {
				t.Errorf("SetHead(%d): %d", id, err)
			}
			if err := a.SetHead(id, api.Head{}); err != api.ErrArenaLatch {
				t.Errorf("SetHead(%d): %d", id, err)
			}
			if err := a.SetBody(id, api.Body{Keys: texts("m"), Values: texts("1"), Kids: []int{1}}); err != api.ErrArenaLatch {
				t.Errorf("SetBody(%d): %d", id, err)
			}
		})
	}
	if err := a.SetHead(3, api.Head{Level: 1}); err != api.OK {
		t.Errorf("SetHead of a held one: %d", err)
	}
}

// Head and Body: what was set last, each by itself, whether the latch is held or not.
func TestHeadAndBody(t *testing.T) {
	a := newArena(t, 2, 2)
	h := api.Head{Level: 1, High: []byte("m"), Right: 2}
	if err := a.SetHead(2, h); err != api.OK {
		t.Errorf("SetHead: %d", err)
	}
	wantHead(t, a, 2, h)
	wantBody(t, a, 2, api.Body{})
	b := api.Body{Keys: texts("a", "b"), Values: texts("1", ""), Kids: []int{7, 8, 9}}
	if err := a.SetBody(2, b); err != api.OK {
		t.Errorf("SetBody: %d", err)
	}
	wantHead(t, a, 2, h)
	wantBody(t, a, 2, b)
	wantWord(t, a, 2, 1)
	for _, changed := range []bool{false, true} {
		word, _ := a.Word(2)
		wantUnlock(t, a, 2, changed, api.OK)
		wantHead(t, a, 2, h)
		wantBody(t, a, 2, b)
		if changed {
			word += 2
		}
		wantLock(t, a, 2, word-1, true)
	}
	h2, b2 := api.Head{Right: 1}, api.Body{Keys: texts("z")}
	a.SetHead(2, h2)
	wantBody(t, a, 2, b)
	a.SetBody(2, b2)
	wantHead(t, a, 2, h2)
	wantBody(t, a, 2, b2)
	a.SetHead(2, api.Head{})
	a.SetBody(2, api.Body{})
	wantHead(t, a, 2, api.Head{})
	wantBody(t, a, 2, api.Body{})
}

// What was set behind a Lock stays, even if the latch is given back as not changed.
func TestUnlockFalseKeepsWhatWasSet(t *testing.T) {
	a := newArena(t, 1, 1)
	wantLock(t, a, 1, 0, true)
	a.SetHead(1, api.Head{Level: 2})
	a.SetBody(1, api.Body{Kids: []int{3}})
	wantUnlock(t, a, 1, false, api.OK)
	wantWord(t, a, 1, 0)
	wantHead(t, a, 1, api.Head{Level: 2})
	wantBody(t, a, 1, api.Body{Kids: []int{3}})
}

// SetHead and SetBody: whatever stands in it, nodes that may not be too.
func TestSetOfAnyForm(t *testing.T) {
	d := dice(10)
	a := newArena(t, 4, 4)
	wantLock(t, a, 1, 0, true)
	for range 3000 {
		id, h, b := 1+d.below(4), d.head(), d.body()
		if e1, e2 := a.SetHead(id, h), a.SetBody(id, b); e1 != api.OK || e2 != api.OK {
			t.Fatalf("%s, %s: %d, %d", toldHead(h), toldBody(b), e1, e2)
		}
		wantHead(t, a, id, h)
		wantBody(t, a, id, b)
	}
}

// Grow: from the root and from another number, to a slot that is taken or not.
func TestGrow(t *testing.T) {
	a := newArena(t, 5, 3)
	others := []int{math.MinInt, -1, 0, 2, 3, 4, 5, 6, 65537, 1<<32 + 1, math.MaxInt}
	for _, old := range others {
		for root := 1; root <= 3; root++ {
			stays(t, a, "Grow from another root", func() {
				if is, err := a.Grow(old, root); is || err != api.OK {
					t.Errorf("Grow(%d, %d): %v, %d", old, root, is, err)
				}
			})
		}
		for _, root := range []int{0, 4, 5, 6} {
			stays(t, a, "Grow to no node", func() {
				if is, err := a.Grow(old, root); is || err != api.ErrArenaNode {
					t.Errorf("Grow(%d, %d): %v, %d", old, root, is, err)
				}
			})
		}
	}
	for _, turn := range [][2]int{{1, 1}, {1, 3}, {3, 2}, {2, 1}, {1, 2}} {
		if is, err := a.Grow(turn[0], turn[1]); !is || err != api.OK || a.Root() != turn[1] {
			t.Fatalf("Grow(%d, %d): %v, %d; root %d", turn[0], turn[1], is, err, a.Root())
		}
	}
	if is, err := a.Grow(1, 3); is || err != api.OK || a.Root() != 2 {
		t.Errorf("Grow from a root that was: %v, %d; root %d", is, err, a.Root())
	}
	a.Alloc()
	if is, err := a.Grow(2, 4); !is || err != api.OK || a.Root() != 4 {
		t.Errorf("Grow to a held node: %v, %d; root %d", is, err, a.Root())
	}
	wantWord(t, a, 4, 1)
}

// Held: none, some, all.
func TestHeld(t *testing.T) {
	a := newArena(t, 6, 5)
	wantHeld(t, a, 2, 3, 4, 5)
	wantLock(t, a, 1, 0, true)
	wantHeld(t, a, 1, 2, 3, 4, 5)
	wantUnlock(t, a, 3, true, api.OK)
	wantUnlock(t, a, 5, false, api.OK)
	wantHeld(t, a, 1, 2, 4)
	a.Alloc()
	wantHeld(t, a, 1, 2, 4, 6)
	wantLock(t, a, 3, 2, true)
	wantHeld(t, a, 1, 2, 3, 4, 6)
	for _, id := range []int{6, 1, 4, 2, 3} {
		wantUnlock(t, a, id, true, api.OK)
	}
	wantHeld(t, a)
}

// Held: of the greatest arena, all held, then each third one.
func TestHeldOfMany(t *testing.T) {
	a := newArena(t, api.MaxNodes, api.MaxNodes)
	wantLock(t, a, 1, 0, true)
	var want []int
	for id := 1; id <= api.MaxNodes; id++ {
		want = append(want, id)
	}
	if held := a.Held(); !slices.Equal(held, want) {
		t.Errorf("all: %d of them", len(held))
	}
	want = nil
	for id := 1; id <= api.MaxNodes; id++ {
		if id%3 == 0 {
			want = append(want, id)
		} else {
			wantUnlock(t, a, id, true, api.OK)
		}
	}
	if held := a.Held(); !slices.Equal(held, want) {
		t.Errorf("each third one: %d of them", len(held))
	}
}
