package descent_test

import (
	"bytes"
	"math"
	"testing"

	"coppice/api"
	"coppice/arena"
	"coppice/descent"
)

// The rows of the chapter's table of examples.
func TestExamples(t *testing.T) {
	start(t, small().lay(t), "z", 0).comes(9, 2, 0, 0)
	start(t, small().set(3, inner(1, "", 0, nil, 1)).lay(t), "z", 0).comes(13, 2, 0, 1)
	start(t, small().lay(t), "a", 1).comes(5, 3, 0, 0)
	start(t, small().lay(t), "a", 2).comes(5, 0, 0, 0)

	w := start(t, small().lay(t), "z", 0)
	w.on(3)
	hold(t, w.a, 3)
	w.on(1)
	give(t, w.a, 3, true)
	w.on(1)
	w.counts(1, 0)
	w.comes(9, 2, 1, 0)
}

// Keys and levels of ordinary trees: steps, node, moves to the right.
func TestOrdinary(t *testing.T) {
	for _, x := range []struct {
		key                     string
		level, steps, id, right int
	}{
		{"a", 0, 13, 1, 0}, {"b", 0, 13, 1, 0}, {"c\xff", 0, 13, 1, 0},
		{"d", 0, 17, 2, 1}, {"e", 0, 17, 2, 1}, {"f", 0, 17, 2, 1},
		{"g", 0, 13, 3, 0}, {"h", 0, 13, 3, 0}, {"l\xff\xff", 0, 13, 3, 0},
		{"m", 0, 13, 4, 0}, {"o", 0, 13, 4, 0},
		{"p", 0, 17, 5, 1}, {"p\x00", 0, 17, 5, 1}, {"\xff", 0, 17, 5, 1},
		{"a", 1, 9, 6, 0}, {"l", 1, 9, 6, 0}, {"m", 1, 9, 7, 0}, {"z", 1, 9, 7, 0},
		{"a", 2, 5, 8, 0}, {"m", 2, 5, 8, 0}, {"z", 2, 5, 8, 0},
	} {
		start(t, tall().lay(t), x.key, x.level).comes(x.steps, x.id, 0, x.right)
	}
	start(t, newArena(t), "k", 0).comes(5, 1, 0, 0)
}

// The empty key belongs to the first node of each level, whatever its keys are; a key may be longer than any in a tree.
func TestKeysOfAnyLength(t *testing.T) {
	low := tall().set(1, leaf("\x00", 2)).set(6, inner(1, "\x00\x00", 7, texts("\x00"), 1, 3))
	for level, id := range []int{1, 6, 8} {
		steps := 13 - 4*level
		start(t, tall().lay(t), "", level).comes(steps, id, 0, 0)
		start(t, low.lay(t), "", level).comes(steps, id, 0, 0)
		w := walk{t, tall().lay(t), nil}
		w.m = descent.New(w.a, nil, level)
		w.comes(steps, id, 0, 0)
	}
	start(t, newArena(t), "", 0).comes(5, 1, 0, 0)
	for _, size := range []int{64, 65, 1000, 1 << 20} {
		start(t, tall().lay(t), string(bytes.Repeat([]byte("n"), size)), 0).comes(13, 4, 0, 0)
	}
	start(t, tall().lay(t), "g"+string(make([]byte, 999)), 0).comes(13, 3, 0, 0)
}

// A key that is handed in is not kept: whoever changes it later, at any step, changes no way. Nor is it written to.
func TestKeyChangedLater(t *testing.T) {
	for steps := range 13 {
		w := walk{t, tall().lay(t), nil}
		room := []byte("h and more")
		w.m = descent.New(w.a, room[:1], 0)
		w.on(steps)
		if string(room) != "h and more" {
			t.Fatalf("the key and its spare room: %q", room)
		}
		copy(room, "zzzzzzzzzz")
		w.comes(13-steps, 3, 0, 0)
		if string(room) != "zzzzzzzzzz" {
			t.Fatalf("the key and its spare room: %q", room)
		}
	}
}

// Levels that there are not: above the root's it is through at the root; below 0 at the number 0, to which a leaf without Kids leads.
func TestNoSuchLevel(t *testing.T) {
	for _, key := range []string{"", "a", "z"} {
		for _, level := range []int{3, 4, 33, math.MaxInt} {
			start(t, tall().lay(t), key, level).comes(5, 0, 0, 0)
			start(t, newArena(t), key, level).comes(5, 0, 0, 0)
		}
		for _, level := range []int{-1, -2, math.MinInt} {
			start(t, newArena(t), key, level).comes(6, 0, 0, 0)
		}
	}
	start(t, newArena(t), "a", 1).comes(5, 0, 0, 0)
	for _, level := range []int{-1, -33, math.MinInt} {
		start(t, tall().lay(t), "h", level).comes(14, 0, 0, 0)
		start(t, tall().lay(t), "q", level).comes(18, 0, 0, 1)
	}
}

// A node below the wanted level ends the way ahead of all else: of its High, of its Right.
func TestLevelBelowComesFirst(t *testing.T) {
	start(t, tree{1, []api.Node{leaf("m", 2), leaf("", 0)}}.lay(t), "z", 1).comes(5, 0, 0, 0)
	gap := small().set(3, inner(5, "", 0, texts("m"), 1, 2))
	for level := 1; level < 5; level++ {
		start(t, gap.lay(t), "a", level).comes(9, 0, 0, 0)
		start(t, gap.lay(t), "z", level).comes(9, 0, 0, 0)
	}
	start(t, gap.lay(t), "z", 0).comes(9, 2, 0, 0)
	start(t, gap.lay(t), "z", 5).comes(5, 3, 0, 0)
	start(t, gap.lay(t), "z", 6).comes(5, 0, 0, 0)
	below := tree{1, []api.Node{inner(-3, "", 0, nil, 1)}}
	start(t, below.lay(t), "a", 0).comes(5, 0, 0, 0)
	start(t, below.lay(t), "a", -3).comes(5, 1, 0, 0)
}

// Beyond comes ahead of the wanted level, and ahead of the way down.
func TestBeyondComesFirst(t *testing.T) {
	brothers := tree{3, []api.Node{leaf("m", 2), leaf("", 0), inner(1, "m", 4, nil, 1), inner(1, "", 0, nil, 2)}}
	start(t, brothers.lay(t), "m", 1).comes(9, 4, 0, 1)
	start(t, brothers.lay(t), "l", 1).comes(5, 3, 0, 0)
	start(t, brothers.lay(t), "m", 0).comes(13, 2, 0, 1)
	start(t, brothers.lay(t), "l", 0).comes(9, 1, 0, 0)
}

// A Right that leads on, several times, in one level and in several.
func TestRights(t *testing.T) {
	chain := tree{7, []api.Node{
		leaf("b", 2), leaf("c", 3), leaf("d", 4), leaf("e", 5), leaf("f", 6), leaf("", 0),
		inner(1, "", 0, nil, 1),
	}}
	for i, key := range []string{"a", "b", "c", "d", "e", "f"} {
		start(t, chain.lay(t), key, 0).comes(9+4*i, 1+i, 0, i)
	}
	levels := tree{5, []api.Node{
		leaf("m", 2), leaf("", 0),
		inner(1, "m", 4, nil, 1), inner(1, "", 0, nil, 1),
		inner(2, "m", 6, nil, 3), inner(2, "", 0, nil, 3),
	}}
	start(t, levels.lay(t), "z", 2).comes(9, 6, 0, 1)
	start(t, levels.lay(t), "z", 1).comes(17, 4, 0, 2)
	start(t, levels.lay(t), "z", 0).comes(25, 2, 0, 3)
	start(t, levels.lay(t), "a", 0).comes(13, 1, 0, 0)
}

// A way that leads round goes on as long as it is asked, step by step.
func TestRound(t *testing.T) {
	w := start(t, tree{1, []api.Node{leaf("m", 1)}}.lay(t), "z", 0)
	w.on(401)
	w.counts(0, 100)
	put(t, w.a, 1, leaf("", 0), true)
	w.comes(4, 1, 0, 100)
	w = start(t, tree{1, []api.Node{inner(1, "", 0, nil, 1)}}.lay(t), "z", 0)
	w.on(401)
	w.counts(0, 0)
}

// A Child or a Right that leads to a number that is not taken: the step that reads its word is the last one.
func TestNumbersNotTaken(t *testing.T) {
	for _, id := range []int{0, 4, 40, 41, -1, math.MinInt, math.MaxInt} {
		start(t, small().set(3, inner(1, "", 0, texts("m"), 1, id)).lay(t), "z", 0).comes(6, 0, 0, 0)
		start(t, small().set(3, inner(1, "", 0, texts("m"), id, 2)).lay(t), "a", 0).comes(6, 0, 0, 0)
		start(t, small().set(3, inner(1, "", 0, texts("m"), 1, id)).lay(t), "a", 0).comes(9, 1, 0, 0)
		start(t, small().set(2, leaf("q", id)).lay(t), "z", 0).comes(10, 0, 0, 1)
		start(t, small().set(2, leaf("q", id)).lay(t), "n", 0).comes(9, 2, 0, 0)
		start(t, small().set(3, inner(1, "q", id, texts("m"), 1, 2)).lay(t), "q", 1).comes(6, 0, 0, 1)
	}
	start(t, small().set(3, inner(1, "", 0, nil)).lay(t), "a", 0).comes(6, 0, 0, 0)
	start(t, small().set(3, inner(1, "", 0, texts("m"))).lay(t), "z", 0).comes(6, 0, 0, 0)
	start(t, small().set(3, inner(1, "", 0, nil)).lay(t), "a", 1).comes(5, 3, 0, 0)

	w := start(t, small().set(3, inner(1, "", 0, nil, 4)).lay(t), "z", 0)
	w.on(5)
	w.a.Alloc()
	give(t, w.a, 4, true)
	w.comes(4, 4, 0, 0)
}

// A call of the arena that answers an error, at each of the steps: of the root, and of a leaf. The arena has fewer slots from then on.
func TestErrorAtEachStep(t *testing.T) {
	for steps := 1; steps <= 8; steps++ {
		w := start(t, small().lay(t), "z", 0)
		w.on(steps)
		*w.a = *newArena(t)
		w.comes(1, 0, 0, 0)
	}
	w := start(t, small().lay(t), "z", 0)
	*w.a = *newArena(t)
	w.comes(5, 1, 0, 0)

	fewer := small().set(3, inner(1, "", 0, nil, 1))
	for steps := 9; steps <= 12; steps++ {
		w := start(t, fewer.lay(t), "z", 0)
		w.on(steps)
		*w.a = *newArena(t)
		w.comes(1, 0, 0, 1)
	}
	w = start(t, small().lay(t), "z", 0)
	w.on(4)
	put(t, w.a, 3, api.Node{}, true)
	w.on(2)
	*w.a = *newArena(t)
	w.comes(1, 0, 1, 0)
}

// A word that is odd is read once more, for one step and for several, of an inner node and of a leaf; it counts in nothing.
func TestOddWord(t *testing.T) {
	for _, waits := range []int{1, 2, 7, 300} {
		for _, changed := range []bool{false, true} {
			// held is behind how many steps the latch is taken, odd behind how many its word is read first.
			for _, x := range []struct{ id, held, odd int }{{3, 0, 1}, {3, 1, 1}, {2, 2, 5}, {2, 5, 5}} {
				w := start(t, small().lay(t), "z", 0)
				w.on(x.held)
				hold(t, w.a, x.id)
				w.on(x.odd - x.held + waits)
				w.counts(0, 0)
				give(t, w.a, x.id, changed)
				w.comes(9-x.odd, 2, 0, 0)
			}
		}
	}
	w := start(t, small().lay(t), "z", 0)
	hold(t, w.a, 3)
	w.on(3)
	w.a.SetBody(3, api.Body{Kids: []int{1}})
	w.on(3)
	give(t, w.a, 3, true)
	w.comes(12, 2, 0, 1)
}

// A latch that is held over other nodes than the one that is read is not asked.
func TestOddWordElsewhere(t *testing.T) {
	w := start(t, small().lay(t), "z", 0)
	hold(t, w.a, 1)
	w.on(5)
	hold(t, w.a, 3)
	w.comes(4, 2, 0, 0)
}

// A word that is turned between WORD and VALID, by a change that is given back, or by a latch that is taken and given back alone: it begins anew, with ROOT.
func TestTurnedBetween(t *testing.T) {
	turns := map[string]func(a *arena.Arena, id int){
		"the same node laid": func(a *arena.Arena, id int) { put(t, a, id, read(a, id), true) },
		"a latch alone":      func(a *arena.Arena, id int) { hold(t, a, id); give(t, a, id, true) },
		"several latches": func(a *arena.Arena, id int) {
			for range 5 {
				hold(t, a, id)
				give(t, a, id, true)
			}
		},
	}
	for what, turn := range turns {
		t.Run(what, func(t *testing.T) {
			for steps := range 9 {
				for id := 1; id <= 3; id++ {
					w := start(t, small().lay(t), "z", 0)
					w.on(steps)
					turn(w.a, id)
					switch {
					case id == 3 && steps >= 2 && steps <= 4:
						w.on(5 - steps)
						w.counts(1, 0)
						w.comes(9, 2, 1, 0)
					case id == 2 && steps >= 6:
						w.on(9 - steps)
						w.counts(1, 0)
						w.comes(9, 2, 1, 0)
					default:
						w.comes(9-steps, 2, 0, 0)
					}
				}
			}
		})
	}
}

// A latch that is taken alone, and still held at VALID: it begins anew, and waits then at WORD.
func TestHeldAtValid(t *testing.T) {
	for steps := 2; steps <= 4; steps++ {
		for _, changed := range []bool{false, true} {
			w := start(t, small().lay(t), "z", 0)
			w.on(steps)
			hold(t, w.a, 3)
			w.on(5 - steps)
			w.counts(1, 0)
			w.on(1 + 4)
			w.counts(1, 0)
			give(t, w.a, 3, changed)
			w.comes(8, 2, 1, 0)
		}
	}
	w := start(t, small().lay(t), "z", 0)
	w.on(8)
	hold(t, w.a, 2)
	w.on(1)
	w.counts(1, 0)
	w.on(5 + 2)
	give(t, w.a, 2, true)
	w.comes(4, 2, 1, 0)
}

// A latch that is taken between, and given back as unchanged ahead of VALID, is not seen: the word is what it was.
func TestGivenBackUnchanged(t *testing.T) {
	for steps := range 9 {
		for id := 1; id <= 3; id++ {
			w := start(t, small().lay(t), "z", 0)
			w.on(steps)
			hold(t, w.a, id)
			give(t, w.a, id, false)
			w.comes(9-steps, 2, 0, 0)
		}
	}
}

// It begins anew as often as it must.
func TestAgainAndAgain(t *testing.T) {
	w := start(t, small().lay(t), "z", 0)
	for again := range 50 {
		w.on(2 + again%3)
		put(t, w.a, 3, read(w.a, 3), true)
		w.on(3 - again%3)
		w.counts(again+1, 0)
	}
	w.comes(9, 2, 50, 0)
}

// What was counted stays, when it begins anew: Right too.
func TestCountsStay(t *testing.T) {
	w := start(t, small().set(3, inner(1, "", 0, nil, 1)).lay(t), "z", 0)
	w.on(11)
	w.counts(0, 1)
	put(t, w.a, 2, read(w.a, 2), true)
	w.on(2)
	w.counts(1, 1)
	w.comes(13, 2, 1, 2)
}

// Each piece is read at its own step, and the root and the words too: what is laid ahead of that step is read, what is laid behind it is not. (Latches are given back as unchanged, so that nothing else tells.)
func TestOneThingAStep(t *testing.T) {
	for steps := range 6 {
		a := tree{1, []api.Node{leaf("m", 2, "a")}}.lay(t)
		w := start(t, a, "b", 0)
		through := false
		for range steps {
			through = w.step()
		}
		put(t, a, 1, leaf("n", 3, "b", "c"), false)
		for !through {
			through = w.step()
		}
		want := leaf("m", 2, "a")
		if steps <= 2 {
			want.Head = leaf("n", 3).Head
		}
		if steps <= 3 {
			want.Body = leaf("", 0, "b", "c").Body
		}
		if id, word, n := w.m.At(); id != 1 || word != 2 || told(n) != told(want) {
			t.Errorf("laid behind %d steps: %d, %d, %s; not %s", steps, id, word, told(n), told(want))
		}
	}
}

// The root is asked at ROOT alone: one that is turned later is not seen, till the machine begins anew.
func TestRootTurned(t *testing.T) {
	two := small()
	two.root = 1
	for _, x := range []struct {
		tree       tree
		key        string
		level      int
		root       int // the one that it is turned to
		steps, id  int // where the machine comes to by that one
		old, right int // and by the one that was, behind so many moves to the right
	}{
		{two, "z", 0, 3, 9, 2, 2, 1},
		{two, "a", 1, 3, 5, 3, 0, 0},
		{small(), "a", 1, 2, 5, 0, 3, 0},
	} {
		w := start(t, x.tree.lay(t), x.key, x.level)
		grow(t, w.a, x.root)
		w.comes(x.steps, x.id, 0, 0)
		for steps := 1; steps < 5; steps++ {
			w := start(t, x.tree.lay(t), x.key, x.level)
			w.on(steps)
			grow(t, w.a, x.root)
			w.comes(5+4*x.right-steps, x.old, 0, x.right)
		}
	}
	w := start(t, two.lay(t), "a", 1)
	w.on(4)
	grow(t, w.a, 3)
	put(t, w.a, 1, read(w.a, 1), true)
	w.on(1)
	w.counts(1, 0)
	w.comes(5, 3, 1, 0)
}

// A machine that came to a node tells it as it was, whatever is turned later; one that came to none stays there.
func TestThrough(t *testing.T) {
	w := start(t, small().lay(t), "z", 0)
	w.comes(9, 2, 0, 0)
	was := toldAll(w.m)
	put(t, w.a, 2, leaf("n", 1, "m"), true)
	w.stays()
	hold(t, w.a, 2)
	hold(t, w.a, 3)
	grow(t, w.a, 1)
	w.stays()
	*w.a = *newArena(t)
	w.stays()
	if got := toldAll(w.m); got != was {
		t.Errorf("%s; then %s", was, got)
	}

	w = start(t, newArena(t), "z", 1)
	w.comes(5, 0, 0, 0)
	id, _ := w.a.Alloc()
	w.a.SetHead(id, api.Head{Level: 1})
	give(t, w.a, id, true)
	grow(t, w.a, id)
	w.stays()
	start(t, w.a, "z", 1).comes(5, 2, 0, 0)
}

// The word that is told is the one that WORD read, however great.
func TestWordTold(t *testing.T) {
	a := newArena(t)
	for changes := range uint64(500) {
		w := start(t, a, "k", 0)
		w.comes(5, 1, 0, 0)
		id, word, _ := w.m.At()
		if id != 1 || word != 2*changes {
			t.Fatalf("at %d, word %d; not %d", id, word, 2*changes)
		}
		if is, err := a.Lock(id, word); !is || err != api.OK {
			t.Fatalf("Lock with it: %v, %d", is, err)
		}
		give(t, a, 1, true)
	}
}
