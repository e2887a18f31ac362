package sched_test

import (
	"math"
	"slices"
	"testing"

	"coppice/api"
	"coppice/arena"
	"coppice/put"
	"coppice/shape"
)

// strangers are numbers that no client of so many has.
func strangers(clients int) []int {
	return []int{-1, -2, -16, math.MinInt, math.MinInt + 1, clients, clients + 1, clients + 16, 1000, 1 << 32, -1 << 32, math.MaxInt}
}

// Numbers that no client has: false, and nothing is turned, at any time.
func TestPickOfNobody(t *testing.T) {
	for clients := range 17 {
		w := world(t, small(slices.Repeat(lists(ops(putOp("c", "9"))), clients)...))
		idle(t, w, strangers(clients)...)
		for number := range clients {
			pick(t, w, number)
			if number%5 == 0 {
				idle(t, w, strangers(clients)...)
			}
		}
		idle(t, w, strangers(clients)...)
		finish(t, w)
		idle(t, w, strangers(clients)...)
	}
}

// Each number from 0 on is that of its own client.
func TestPickOfEach(t *testing.T) {
	for clients := 1; clients <= 16; clients++ {
		var l [][]api.Op
		for i := range clients {
			l = append(l, ops(putOp(string(rune('a'+i)), "1")))
		}
		for number := range clients {
			w := world(t, api.Script{Config: api.Config{Nodes: 99, Leaf: 64, Inner: 3, Fill: 2, Block: 4}, Clients: l})
			pick(t, w, repeat(number, 8)...)
			h := w.History()
			if len(h.Calls) != 1 || h.Calls[0].Client != number || h.Calls[0].Number != 0 || list(h.End) != string(rune('a'+number))+"=1" {
				t.Fatalf("%s", told(h))
			}
			idle(t, w, number)
		}
	}
}

// A client that is done, or that has no operations: false, and nothing is turned; the others go on.
func TestPickOfDone(t *testing.T) {
	w := world(t, small(nil, ops(getOp("b")), ops(), ops(putOp("c", "9"))))
	idle(t, w, 0, 2, 0, 2)
	pick(t, w, repeat(1, 8)...)
	idle(t, w, 0, 2)
	pick(t, w, 1)
	idle(t, w, 0, 1, 2, 1)
	pick(t, w, repeat(3, 11)...)
	idle(t, w, 0, 1, 2) // a latch is held then
	if len(w.Arena().Held()) != 1 || w.Done() {
		t.Fatalf("%s", told(w.History()))
	}
	pick(t, w, 3)
	idle(t, w, 0, 1, 2, 3, 3)
	is(t, w.History(),
		"start b=1 c=2 d=3",
		"1/0 get b=: 0 8 8 done there value 1",
		"3/0 put c=9: 9 20 20 done there",
		"21 steps, done", "end b=1 c=9 d=3")
}

// The moment of a step is how many steps there were ahead of it, whoever's: those of First, and picks that do nothing, are not among them.
func TestMoments(t *testing.T) {
	none := otherOp(0)
	w := world(t, small(ops(none, none, none), ops(none, none), nil, ops(none)))
	idle(t, w, 2, -1, 4)
	for moment, number := range []int{1, 0, 0, 3, 1, 0} {
		pick(t, w, number)
		idle(t, w, 2, -1, 4)
		if moment >= 3 {
			idle(t, w, 3) // it is done by then
		}
		found := 0
		for _, c := range w.History().Calls {
			if c.First == moment && c.Last == moment && c.Client == number {
				found++
			}
		}
		if found != 1 {
			t.Fatalf("moment %d: %s", moment, told(w.History()))
		}
	}
	is(t, w.History(),
		"start b=1 c=2 d=3",
		"0/0 kind 0 b=: 1 1 -1 done error 1",
		"0/1 kind 0 b=: 2 2 -1 done error 1",
		"0/2 kind 0 b=: 5 5 -1 done error 1",
		"1/0 kind 0 b=: 0 0 -1 done error 1",
		"1/1 kind 0 b=: 4 4 -1 done error 1",
		"3/0 kind 0 b=: 3 3 -1 done error 1",
		"6 steps, done", "end b=1 c=2 d=3")
}

// No two operations take effect at one moment, and no two steps are at one.
func TestOneMomentOneStep(t *testing.T) {
	for seed := range 100 {
		d := dice(seed)
		s := d.script(16, 6)
		s.Picks = d.picks(3000, len(s.Clients))
		h := run(t, s)
		firsts, points := map[int]int{}, map[int]int{}
		for _, c := range h.Calls {
			firsts[c.First]++
			points[c.Point]++
			if firsts[c.First] > 1 || c.Point >= 0 && points[c.Point] > 1 || c.First < 0 || max(c.First, c.Last, c.Point) >= h.Steps {
				t.Fatalf("%s: %s", toldCall(c), told(h))
			}
		}
	}
}

// Done: where nobody has anything to do there is nothing to wait for.
func TestDone(t *testing.T) {
	for clients := range 17 {
		if w := world(t, small(make([][]api.Op, clients)...)); !w.Done() || !w.History().Done {
			t.Errorf("%d clients without operations: not done", clients)
		}
		for busy := range clients {
			l := make([][]api.Op, clients)
			l[busy] = ops(otherOp(0), otherOp(0))
			w := world(t, small(l...))
			for range 2 {
				if w.Done() || w.History().Done {
					t.Fatalf("%d clients, %d has something to do: done", clients, busy)
				}
				pick(t, w, busy)
			}
			if !w.Done() || !w.History().Done {
				t.Fatalf("%d clients, all through: not done", clients)
			}
		}
	}
}

// The arena is the one itself: the same at each call, its nodes go as the clients go, and what others turn there the world sees.
func TestArena(t *testing.T) {
	w := world(t, small(ops(putOp("c", "9"), getOp("a")), ops(getOp("a"))))
	a := w.Arena()
	if a == nil || list(shape.Map(a)) != "b=1 c=2 d=3" || a.Used() != 3 || a.Left() != 17 {
		t.Fatal("it is not the tree of First")
	}
	pick(t, w, repeat(0, 12)...)
	if w.Arena() != a || list(shape.Map(a)) != "b=1 c=9 d=3" {
		t.Fatal("it is another one")
	}
	m := put.New(a, twenty(), []byte("a"), []byte("5"))
	for through := false; !through; {
		through, _ = m.Step()
	}
	is(t, w.History(), "start b=1 c=2 d=3", "0/0 put c=9: 0 11 11 done there", "12 steps", "end a=5 b=1 c=9 d=3")
	word, _ := a.Word(2)
	a.Lock(2, word)
	is(t, w.History(), "start b=1 c=2 d=3", "0/0 put c=9: 0 11 11 done there", "12 steps, held [2]", "end a=5 b=1 c=9 d=3")
	a.Unlock(2, false)
	pick(t, w, repeat(1, 9)...)
	pick(t, w, repeat(0, 9)...)
	is(t, w.History(),
		"start b=1 c=2 d=3",
		"0/0 put c=9: 0 11 11 done there",
		"0/1 get a=: 21 29 29 done there value 5",
		"1/0 get a=: 12 20 20 done there value 5",
		"30 steps, done", "end a=5 b=1 c=9 d=3")
}

// A latch that nobody gives back: whoever waits for it has a step at each pick, and is not done.
func TestWaits(t *testing.T) {
	w := world(t, small(ops(getOp("b")), ops(putOp("b", "5")), ops(scanOp("", "", 9)), ops(exportOp(0)), ops(delOp("b"))))
	a := w.Arena()
	word, _ := a.Word(1)
	a.Lock(1, word)
	for range 60 {
		pick(t, w, 0, 1, 2, 3, 4)
	}
	h := w.History()
	if h.Steps != 300 || h.Done || !slices.Equal(h.Held, []int{1}) {
		t.Fatalf("%s", told(h))
	}
	for i, c := range h.Calls {
		if c.First != i || c.Last != -1 || c.Point != -1 || c.Done {
			t.Fatalf("%s", toldCall(c))
		}
	}
	a.Unlock(1, false)
	finish(t, w)
}

// An arena that others make another one, or whose tree they spoil, harms no call: each still ends, and Pick answers.
func TestSpoiledArena(t *testing.T) {
	all := ops(getOp("d"), putOp("c", "9"), delOp("d"), scanOp("b", "z", 9), exportOp(0, 3), otherOp(0), putOp("x", "1"))
	for at := range 120 {
		w := world(t, small(all, all))
		for i := range at {
			w.Pick(i % 2)
		}
		if at%2 == 0 {
			other, _ := arena.New(1)
			*w.Arena() = *other
		} else {
			for id := 1; id <= w.Arena().Used(); id++ {
				word, _ := w.Arena().Word(id)
				w.Arena().Lock(id, word)
				w.Arena().SetHead(id, api.Head{Level: id - 2, Right: at - 60})
				w.Arena().SetBody(id, api.Body{Keys: [][]byte{[]byte("z"), nil, []byte("c")}, Kids: []int{1, at}})
				w.Arena().Unlock(id, true)
			}
		}
		for i := range 400 {
			number := i % 2
			through := w.History().Done
			if w.Pick(number) && through {
				t.Fatal("a step behind the end")
			}
		}
		if h := w.History(); h.Steps > at+400 || len(h.Calls) < 2 && at > 1 {
			t.Fatalf("%s", told(h))
		}
	}
}
