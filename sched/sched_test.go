package sched_test

import (
	"fmt"
	"slices"
	"strings"
	"testing"

	"coppice/api"
	"coppice/sched"
)

// run plays a script, once by Run and once pick by pick; both must tell the same.
func run(t *testing.T, s api.Script) api.History {
	t.Helper()
	h, err := sched.Run(s)
	if err != api.OK {
		t.Fatalf("Run: %d", err)
	}
	w := world(t, s)
	for _, number := range s.Picks {
		w.Pick(number)
	}
	is(t, w.History(), strings.Split(told(h), "\n")...)
	return h
}

// The chapter's table of examples.
func TestExamples(t *testing.T) {
	script := func(picks []int, clients ...[]api.Op) api.Script {
		return api.Script{Config: nine(), First: ops(putOp("a", "1")), Clients: clients, Picks: picks}
	}
	is(t, run(t, script(nil)), "start a=1", "0 steps, done", "end a=1")
	is(t, run(t, script(repeat(0, 4), ops(getOp("a")))), "start a=1", "0/0 get a=: 0 -1 -1", "4 steps", "end a=1")
	is(t, run(t, script(repeat(0, 6), ops(getOp("a")))), "start a=1", "0/0 get a=: 0 4 4 done there value 1", "5 steps, done", "end a=1")
	is(t, run(t, script(turns(repeat(0, 8), repeat(1, 5)), ops(putOp("a", "2")), ops(getOp("a")))),
		"start a=1",
		"0/0 put a=2: 0 7 7 done there",
		"1/0 get a=: 8 12 12 done there value 2",
		"13 steps, done", "end a=2")
	if sched.Fair([]int{0, 1, 0, 0, 1}, 2, 2) || !sched.Fair([]int{0, 1, 0, 0, 1}, 2, 3) {
		t.Error("Fair")
	}
	if got := sched.Bound(script(nil, ops(getOp("a"))), 1); got != 4635 {
		t.Errorf("Bound: %d", got)
	}
}

// The document's examples of the whole that are scripts: two puts of one key, one of which waits for the other's latch; a look that begins anew; a snapshot behind two puts.
func TestExamplesOfTheWhole(t *testing.T) {
	puts := lists(ops(putOp("k", "1")), ops(putOp("k", "2")))
	waits := turns(repeat(0, 7), repeat(1, 8), repeat(0, 1), repeat(1, 7))
	is(t, run(t, api.Script{Config: twenty(), Clients: puts, Picks: waits}),
		"start",
		"0/0 put k=1: 0 15 15 done",
		"1/0 put k=2: 7 22 22 done there",
		"23 steps, done", "end k=2")
	is(t, run(t, api.Script{Config: twenty(), Clients: puts, Picks: waits[:22]}),
		"start",
		"0/0 put k=1: 0 15 15 done",
		"1/0 put k=2: 7 -1 -1",
		"22 steps, held [1]", "end k=2")
	is(t, run(t, api.Script{Config: twenty(), Clients: lists(ops(putOp("k", "1")), ops(getOp("k"))), Picks: turns(repeat(1, 3), repeat(0, 8), repeat(1, 7))}),
		"start",
		"0/0 put k=1: 3 10 10 done",
		"1/0 get k=: 0 17 17 done there value 1",
		"18 steps, done", "end k=1")
	is(t, run(t, api.Script{Config: twenty(), First: ops(putOp("a", "1")), Clients: lists(ops(exportOp(0)), ops(putOp("z", "9"))), Picks: turns(repeat(0, 99), repeat(1, 99))}),
		"start a=1",
		"0/0 export: 0 6 -1 done value "+streamOf(t, 4, entry("a", "1")),
		"1/0 put z=9: 7 14 14 done",
		"15 steps, done", "end a=1 z=9")
}

// A whole world, looked at between all its picks, latches being held now and then.
func TestHistoryBetweenPicks(t *testing.T) {
	w := world(t, small(ops(putOp("d", "4"), getOp("d")), ops(delOp("b"))))
	is(t, w.History(), "start b=1 c=2 d=3", "0 steps", "end b=1 c=2 d=3")
	pick(t, w, 0)
	is(t, w.History(), "start b=1 c=2 d=3", "0/0 put d=4: 0 -1 -1", "1 steps", "end b=1 c=2 d=3")
	pick(t, w, 1)
	is(t, w.History(), "start b=1 c=2 d=3", "0/0 put d=4: 0 -1 -1", "1/0 del b=: 1 -1 -1", "2 steps", "end b=1 c=2 d=3")
	pick(t, w, repeat(0, 9)...) // its latch is held then
	is(t, w.History(), "start b=1 c=2 d=3", "0/0 put d=4: 0 -1 -1", "1/0 del b=: 1 -1 -1", "11 steps, held [2]", "end b=1 c=2 d=3")
	pick(t, w, repeat(1, 9)...)
	is(t, w.History(), "start b=1 c=2 d=3", "0/0 put d=4: 0 -1 -1", "1/0 del b=: 1 -1 -1", "20 steps, held [1 2]", "end b=1 c=2 d=3")
	pick(t, w, 0) // what stands under a latch is told too
	is(t, w.History(), "start b=1 c=2 d=3", "0/0 put d=4: 0 -1 -1", "1/0 del b=: 1 -1 -1", "21 steps, held [1 2]", "end b=1 c=2 d=4")
	pick(t, w, 1)
	is(t, w.History(), "start b=1 c=2 d=3", "0/0 put d=4: 0 -1 -1", "1/0 del b=: 1 -1 -1", "22 steps, held [1 2]", "end c=2 d=4")
	pick(t, w, 1)
	is(t, w.History(), "start b=1 c=2 d=3", "0/0 put d=4: 0 -1 -1", "1/0 del b=: 1 22 22 done there", "23 steps, held [2]", "end c=2 d=4")
	idle(t, w, 1, 1, -1, 2)
	pick(t, w, 0, 0)
	is(t, w.History(),
		"start b=1 c=2 d=3",
		"0/0 put d=4: 0 23 23 done there",
		"0/1 get d=: 24 -1 -1",
		"1/0 del b=: 1 22 22 done there",
		"25 steps", "end c=2 d=4")
	pick(t, w, repeat(0, 8)...)
	want := []string{
		"start b=1 c=2 d=3",
		"0/0 put d=4: 0 23 23 done there",
		"0/1 get d=: 24 32 32 done there value 4",
		"1/0 del b=: 1 22 22 done there",
		"33 steps, done", "end c=2 d=4"}
	is(t, w.History(), want...)
	idle(t, w, 0, 1, 2, -1)
	is(t, w.History(), want...)
}

// A half that is laid while both its latches are held; a half that stands, of which no node above knows yet.
func TestHistoryWhileHalved(t *testing.T) {
	w := world(t, api.Script{Config: nine(), First: ops(putOp("b", "1"), putOp("d", "3")), Clients: lists(ops(putOp("c", "2")))})
	for step, want := range []string{
		"|b=1 d=3", "|b=1 d=3", "|b=1 d=3", "|b=1 d=3", "|b=1 d=3", // ROOT to VALID
		"[1]|b=1 d=3",                                                    // LOCK
		"[1 2]|b=1 d=3", "[1 2]|b=1 d=3", "[1 2]|b=1 d=3", "[1]|b=1 d=3", // ALLOC, QHEAD, QBODY, QFREE
		"[1]|b=1 d=3 d=3", "[1]|b=1 c=2 d=3", "|b=1 c=2 d=3", // PHEAD, PBODY, PFREE
		"|b=1 c=2 d=3", "|b=1 c=2 d=3", "|b=1 c=2 d=3", "|b=1 c=2 d=3", "|b=1 c=2 d=3", "|b=1 c=2 d=3", // ROOT to VALID, TOP
		"[3]|b=1 c=2 d=3", "[3]|b=1 c=2 d=3", "[3]|b=1 c=2 d=3", "|b=1 c=2 d=3", "|b=1 c=2 d=3", // TALLOC, THEAD, TBODY, TFREE, GROW
	} {
		pick(t, w, 0)
		h := w.History()
		got := "|" + list(h.End)
		if len(h.Held) > 0 {
			got = fmt.Sprint(h.Held) + got
		}
		point := -1
		if step >= 12 {
			point = 12
		}
		if got != want || h.Done != (step == 23) || len(h.Calls) != 1 || h.Calls[0].Point != point || h.Calls[0].Done != h.Done || list(h.Start) != "b=1 d=3" {
			t.Fatalf("behind step %d: %s; not %s\n%s", step, got, want, told(h))
		}
	}
}

// Calls stand client by client, each client's in its order, whoever was picked first; those alone that were begun.
func TestOrderOfCalls(t *testing.T) {
	none := otherOp(0)
	s := small(ops(none, none), nil, ops(none, none, none), ops(none))
	for _, x := range []struct {
		picks []int
		want  string
	}{
		{nil, ""},
		{[]int{3}, "3/0@0"},
		{[]int{3, 2}, "2/0@1 3/0@0"},
		{[]int{3, 2, 0}, "0/0@2 2/0@1 3/0@0"},
		{[]int{2, 2, 2}, "2/0@0 2/1@1 2/2@2"},
		{[]int{2, 0, 2, 0, 2, 3}, "0/0@1 0/1@3 2/0@0 2/1@2 2/2@4 3/0@5"},
		{[]int{3, 0, 0, 2, 2, 2}, "0/0@1 0/1@2 2/0@3 2/1@4 2/2@5 3/0@0"},
		{[]int{1, 3, 3, -1, 4, 0, 16, 0, 2, 0, 2, 2}, "0/0@1 0/1@2 2/0@3 2/1@4 2/2@5 3/0@0"},
	} {
		s.Picks = x.picks
		var got []string
		for _, c := range run(t, s).Calls {
			if c.First != c.Last || c.Point != -1 || !c.Done || c.Err != api.ErrArg {
				t.Fatalf("%s", toldCall(c))
			}
			got = append(got, fmt.Sprintf("%d/%d@%d", c.Client, c.Number, c.First))
		}
		if strings.Join(got, " ") != x.want {
			t.Errorf("%d: %s; not %s", x.picks, got, x.want)
		}
	}
}

// Each kind of operation, by a world: what it is handed on, it does; all that its answer has stands in the history.
func TestKinds(t *testing.T) {
	whole := streamOf(t, 4, entry("b", "1"), entry("c", "2"), entry("d", "3"))
	for _, x := range []struct {
		op   api.Op
		want string
		end  string
	}{
		{getOp("c"), "8 8 done there value 2", "b=1 c=2 d=3"},
		{getOp("x"), "8 8 done", "b=1 c=2 d=3"},
		{getOp(""), "0 0 done error 3", "b=1 c=2 d=3"},
		{putOp("c", "9"), "11 11 done there", "b=1 c=9 d=3"},
		{putOp("e", "9"), "11 11 done", "b=1 c=2 d=3 e=9"},
		{putOp("a", "9"), "24 16 done", "a=9 b=1 c=2 d=3"},
		{putOp("", "9"), "0 0 done error 3", "b=1 c=2 d=3"},
		{delOp("d"), "11 11 done there", "b=1 c=2"},
		{delOp("x"), "8 8 done", "b=1 c=2 d=3"},
		{delOp(strings.Repeat("k", 65)), "0 0 done error 3", "b=1 c=2 d=3"},
		{scanOp("", "", 9), "12 -1 done entries b=1 c=2 d=3", "b=1 c=2 d=3"},
		{scanOp("c", "z", 1), "8 -1 done entries c=2", "b=1 c=2 d=3"},
		{scanOp("", "", -1), "0 -1 done error 1", "b=1 c=2 d=3"},
		{exportOp(0), "14 -1 done value " + whole, "b=1 c=2 d=3"},
		{exportOp(1), "0 -1 done error 32", "b=1 c=2 d=3"},
		{exportOp(2, 3), `1 -1 done error 32 value COP`, "b=1 c=2 d=3"},
		{otherOp(6), "0 -1 done error 1", "b=1 c=2 d=3"},
	} {
		s := small(ops(x.op))
		s.Picks = repeat(0, 99)
		h := run(t, s)
		want := fmt.Sprintf("0/0 %s: 0 %s", toldOp(x.op), x.want)
		if len(h.Calls) != 1 {
			t.Fatalf("%s", told(h))
		}
		if x.op.Fail == 2 { // what its sink took is the beginning of the stream
			head, _, _ := strings.Cut(want, " value ")
			want = head + " value " + whole[:3]
		}
		if got := toldCall(h.Calls[0]); got != want || list(h.End) != x.end || list(h.Start) != "b=1 c=2 d=3" || !h.Done || h.Steps != h.Calls[0].Last+1 {
			t.Errorf("%s\nnot %s", told(h), want)
		}
	}
}

// Run: no picks, too few, just enough, too many; picks that do nothing, ahead of the others, among them, behind them.
func TestRun(t *testing.T) {
	script := func(picks ...int) api.Script {
		s := small(ops(getOp("b")), ops(putOp("e", "5"), getOp("e")))
		s.Picks = picks
		return s
	}
	for _, x := range []struct {
		picks []int
		want  []string
	}{
		{nil, []string{"0 steps", "end b=1 c=2 d=3"}},
		{[]int{}, []string{"0 steps", "end b=1 c=2 d=3"}},
		{[]int{-1, 2, 15, 16, 17}, []string{"0 steps", "end b=1 c=2 d=3"}},
		{[]int{1}, []string{"1/0 put e=5: 0 -1 -1", "1 steps", "end b=1 c=2 d=3"}},
		{repeat(1, 12), []string{"1/0 put e=5: 0 11 11 done", "12 steps", "end b=1 c=2 d=3 e=5"}},
		{repeat(1, 13), []string{"1/0 put e=5: 0 11 11 done", "1/1 get e=: 12 -1 -1", "13 steps", "end b=1 c=2 d=3 e=5"}},
		{repeat(1, 99), []string{"1/0 put e=5: 0 11 11 done", "1/1 get e=: 12 20 20 done there value 5", "21 steps", "end b=1 c=2 d=3 e=5"}},
		{turns(repeat(1, 21), repeat(0, 8)), []string{"0/0 get b=: 21 -1 -1", "1/0 put e=5: 0 11 11 done", "1/1 get e=: 12 20 20 done there value 5", "29 steps", "end b=1 c=2 d=3 e=5"}},
		{turns(repeat(1, 21), repeat(0, 9)), []string{"0/0 get b=: 21 29 29 done there value 1", "1/0 put e=5: 0 11 11 done", "1/1 get e=: 12 20 20 done there value 5", "30 steps, done", "end b=1 c=2 d=3 e=5"}},
		{turns(repeat(1, 99), repeat(-7, 9), repeat(0, 99), repeat(1, 99)), []string{"0/0 get b=: 21 29 29 done there value 1", "1/0 put e=5: 0 11 11 done", "1/1 get e=: 12 20 20 done there value 5", "30 steps, done", "end b=1 c=2 d=3 e=5"}},
	} {
		is(t, run(t, script(x.picks...)), append([]string{"start b=1 c=2 d=3"}, x.want...)...)
	}
}

// Run of what New refuses: New's error, and nothing else, whatever the picks are.
func TestRunRefused(t *testing.T) {
	for i, s := range refused() {
		for _, picks := range [][]int{nil, {0}, repeat(0, 99), {-1}} {
			s.Picks = picks
			if h, err := sched.Run(s); err != api.ErrArg || told(h) != told(api.History{}) {
				t.Errorf("script %d: %d %s", i, err, told(h))
			}
		}
	}
}

// Two worlds of one script know nothing of one another, and go alike.
func TestWorldsApart(t *testing.T) {
	s := small(ops(putOp("a", "9"), getOp("b")), ops(scanOp("", "", 9)))
	one, other := world(t, s), world(t, s)
	was := told(other.History())
	finish(t, one)
	if told(other.History()) != was || other.Done() {
		t.Fatalf("%s", told(other.History()))
	}
	finish(t, other)
	if told(other.History()) != told(one.History()) || mark(one.Arena()) != mark(other.Arena()) {
		t.Fatalf("%s\nnot\n%s", told(one.History()), told(other.History()))
	}
	first, _ := sched.Run(s)
	again, _ := sched.Run(s)
	if told(first) != told(again) || !slices.Equal(first.Held, again.Held) {
		t.Fatalf("%s\nnot\n%s", told(first), told(again))
	}
}
