package client_test

import (
	"fmt"
	"math"
	"slices"
	"strings"
	"testing"

	"coppice/api"
	"coppice/client"
)

// An export's Value is what its sink took, whether the export came to its end or not: all, some, nothing.
func TestSinks(t *testing.T) {
	whole := string(streamOf(t, 4, "b", "1", "d", "2", "m", "3"))
	const headLen = api.HeadLen
	nothing := make([]int, api.MaxIdle)
	less := slices.Repeat([]int{-1}, api.MaxIdle)
	for _, x := range []struct {
		fail  int
		takes []int
		steps int
		err   api.Errno
		taken int // bytes
	}{
		{0, nil, 15, api.OK, len(whole)},
		{-1, nil, 15, api.OK, len(whole)},
		{9, nil, 15, api.OK, len(whole)},
		{3, nil, 15, api.OK, len(whole)},
		{0, []int{3}, 16, api.OK, len(whole)},
		{0, []int{3, 1, 1, 9, 5}, 19, api.OK, len(whole)},
		{0, []int{0, 0, 8, 0, 1}, 19, api.OK, len(whole)},
		{0, nothing[1:], 30, api.OK, len(whole)},
		{0, append([]int{math.MinInt, math.MaxInt}, nothing[1:]...), 31, api.OK, len(whole)},

		{0, nothing, 16, api.ErrPipeIdle, 0},
		{0, less, 16, api.ErrPipeIdle, 0},
		{0, append([]int{3}, nothing...), 17, api.ErrPipeIdle, 3},
		{0, append([]int{headLen}, nothing...), 30, api.ErrPipeIdle, headLen},
		{0, append([]int{headLen, 7}, less...), 31, api.ErrPipeIdle, headLen + 7},

		{1, nil, 1, api.ErrPipeBroken, 0},
		{1, []int{3}, 1, api.ErrPipeBroken, 0},
		{2, nil, 15, api.ErrPipeBroken, headLen},
		{2, []int{3}, 2, api.ErrPipeBroken, 3},
		{3, []int{3}, 16, api.ErrPipeBroken, headLen},
		{3, []int{headLen, 7}, 16, api.ErrPipeBroken, headLen + 7},
		{3, []int{0, 0}, 3, api.ErrPipeBroken, 0},
	} {
		a := small().lay(t)
		was := mark(a)
		op := exportOp(x.fail, x.takes...)
		c := client.New(a, two(), 0, []api.Op{op, op})
		steps(t, c, 0, x.steps-1)
		if x.steps > 1 {
			is(t, c, false, fmt.Sprintf("0/0 %s: 0 -1 -1", toldOp(op)))
		}
		steps(t, c, x.steps-1, 1)
		want := api.Call{Op: op, Last: x.steps - 1, Point: -1, Done: true, Err: x.err, Value: []byte(whole[:x.taken])}
		is(t, c, false, told(want))
		// Another one has a sink of its own.
		steps(t, c, x.steps, x.steps)
		other := want
		other.Number, other.First, other.Last = 1, x.steps, 2*x.steps-1
		is(t, c, true, told(want), told(other))
		if mark(a) != was {
			t.Errorf("%s: something was turned", toldOp(op))
		}
	}
}

// An export of blocks that may not be: one step, ErrArg, and no byte. Other operations do not look at Block, nor at Nodes and Fill.
func TestBlocks(t *testing.T) {
	for _, block := range []int{math.MinInt, -1, 0, 65, 66, 1 << 32, math.MaxInt} {
		c := client.New(lone("b", "1").lay(t), api.Config{Nodes: -1, Leaf: 2, Inner: 3, Fill: -1, Block: block}, 0, []api.Op{exportOp(0), exportOp(1, 0, 3), putOp("c", "2"), getOp("c")})
		play(t, c)
		is(t, c, true,
			"0/0 export: 0 0 -1 done error 1",
			"0/1 export takes [0 3] fail 1: 1 1 -1 done error 1",
			"0/2 put c=2: 2 9 9 done",
			"0/3 get c=: 10 14 14 done there value 2")
	}
	for _, block := range []int{1, 2, 63, 64} {
		c := client.New(lone("b", "1").lay(t), api.Config{Block: block}, 0, []api.Op{exportOp(0)})
		play(t, c)
		is(t, c, true, "0/0 export: 0 6 -1 done value "+bare(streamOf(t, block, "b", "1")))
	}
}

// A put that is refused as there is no slot: ErrFull at the step at which it took effect, and nothing is turned; what comes behind it goes as ever.
func TestFull(t *testing.T) {
	a := lone("b", "1", "d", "2").of(1).lay(t)
	was := mark(a)
	c := client.New(a, two(), 0, []api.Op{putOp("c", "3"), getOp("c"), putOp("e", "3"), putOp("d", "4"), scanOp("", "", 9)})
	steps(t, c, 0, 8)
	is(t, c, false, "0/0 put c=3: 0 7 7 done error 2")
	if mark(a) != was {
		t.Fatal("something was turned")
	}
	play(t, c)
	var got []string
	for _, call := range c.Calls() {
		got = append(got, fmt.Sprintf("%d %v %s", call.Err, call.There, list(call.Entries)))
	}
	if want := []string{"2 false ", "0 false ", "2 false ", "0 true ", "0 false b=1 d=4"}; !slices.Equal(got, want) {
		t.Fatalf("%q; not %q", got, want)
	}
}

// The machines' own errors, in a tree whose slots are not there; the next operation begins at the step behind.
func TestLost(t *testing.T) {
	a := lost().lay(t)
	was := mark(a)
	c := client.New(a, two(), 2, []api.Op{getOp("a"), putOp("a", "1"), delOp("a"), scanOp("", "", 9), exportOp(0), exportOp(0, 3), getOp("")})
	play(t, c)
	head := streamOf(t, 4)[:8]
	is(t, c, true,
		"2/0 get a=: 0 5 -1 done error 101",
		"2/1 put a=1: 6 11 -1 done error 101",
		"2/2 del a=: 12 17 -1 done error 101",
		"2/3 scan most 9: 18 23 -1 done error 101",
		"2/4 export: 24 30 -1 done error 101 value "+bare(head),
		"2/5 export takes [3]: 31 38 -1 done error 101 value "+bare(head),
		"2/6 get: 39 39 39 done error 3")
	if mark(a) != was {
		t.Fatal("something was turned")
	}
	// A leaf further on that is not there: the scan tells none of what it took.
	x := small()
	x.nodes[0].Right = 9
	c = client.New(x.lay(t), two(), 2, []api.Op{scanOp("", "", 9), scanOp("", "", 2)})
	play(t, c)
	is(t, c, true,
		"2/0 scan most 9: 0 9 -1 done error 101",
		"2/1 scan most 2: 10 18 -1 done entries b=1 d=2")
}

// kinds are operations of all kinds.
func kinds() []api.Op {
	return []api.Op{getOp("d"), putOp("c", "9"), delOp("d"), scanOp("b", "z", 9), exportOp(0, 3), otherOp(0), putOp("x", "1"), getOp("x")}
}

// P18.2: an arena that is another one from some step on, whichever: each machine answers what it does by itself, and the next ones go on.
func TestReplaced(t *testing.T) {
	failed := 0
	for _, x := range []tree{small(), tall()} {
		for at := range 140 {
			r := start(t, x, two(), kinds())
			for range at {
				r.turns(0)
			}
			replace(r.a)
			replace(r.b)
			r.finish()
			for _, call := range r.calls() {
				if call.Err == api.ErrArenaNode {
					failed++
				}
			}
		}
	}
	if failed < 60 {
		t.Errorf("%d calls failed", failed)
	}
}

// P18.2, P1: trees that are not sound, and configurations that may not be: whatever the machines do there, the client does; nothing panics. Some of them never end there: the clients are stepped so often and no more.
func TestOddWorlds(t *testing.T) {
	round := small()
	round.nodes[1].Head = api.Head{High: []byte("z"), Right: 1}
	unlike := small()
	unlike.nodes[0].Values = nil
	falling := lone("d", "1", "b", "2", "d", "3")
	trees := []tree{
		lone(), small(), tall(), lost(), round, unlike, falling, lone().of(1), small().of(3),
		{9, 1, []api.Node{inner(1, "", 0, nil)}},
		{9, 1, []api.Node{inner(math.MaxInt, "", 0, texts("b"), 1, 1)}},
		{9, 1, []api.Node{leaf("b", 1, "a", "1")}},
		{9, 1, []api.Node{leaf("", 0, strings.Repeat("k", 65), strings.Repeat("v", 257))}},
	}
	numbers := []int{math.MinInt, -1, 0, 1, 2, 65, math.MaxInt}
	for i, x := range trees {
		for j := range numbers {
			pick := func(by int) int { return numbers[(i+by*j)%len(numbers)] }
			c := api.Config{Nodes: pick(1), Leaf: numbers[j], Inner: pick(2), Fill: pick(3), Block: pick(4)}
			// Each kind by itself, as an operation that never ends lets no other one begin.
			for _, op := range append(kinds(), scanOp("", "", 99)) {
				r := start(t, x, c, []api.Op{op}, []api.Op{op, getOp("b")})
				for step := range 120 {
					r.step(step % 2)
					if step%5 == 0 {
						r.same()
					}
				}
				r.same()
			}
		}
	}
}

// P1: arguments of any kind; a latch that nobody gives back: an operation that waits for it is not done, and none behind it begins.
func TestWaits(t *testing.T) {
	for _, op := range []api.Op{getOp("b"), putOp("b", "1"), delOp("b"), scanOp("", "", 9), exportOp(0)} {
		a := small().lay(t)
		hold(a, 1)
		was := mark(a)
		c := client.New(a, two(), 0, []api.Op{op, getOp("m")})
		for now := range 500 {
			if !c.Step(now) || c.Done() {
				t.Fatalf("%s: Step(%d): %v", toldOp(op), now, c.Done())
			}
		}
		is(t, c, false, fmt.Sprintf("0/0 %s: 0 -1 -1", toldOp(op)))
		if mark(a) != was {
			t.Fatalf("%s turned something", toldOp(op))
		}
		a.Unlock(1, false)
		play(t, c)
		if l := c.Calls(); len(l) != 2 || !l[0].Done || l[0].Err != api.OK || !l[1].There {
			t.Fatalf("%s", all(l))
		}
	}
}
