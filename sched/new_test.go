package sched_test

import (
	"fmt"
	"math"
	"strings"
	"testing"

	"coppice/api"
	"coppice/sched"
	"coppice/shape"
)

// wrongConfigs are some that may not be, each by one number alone.
func wrongConfigs() []api.Config {
	var l []api.Config
	for _, bad := range []int{math.MinInt, -1, 0, 65537, 1 << 32, math.MaxInt} {
		c := twenty()
		c.Nodes = bad
		l = append(l, c)
	}
	for _, bad := range []int{math.MinInt, -1, 0, 1, 65, math.MaxInt} {
		c := twenty()
		c.Leaf, c.Fill = bad, 1
		l = append(l, c)
	}
	for _, bad := range []int{math.MinInt, -1, 0, 2, 65, math.MaxInt} {
		c := twenty()
		c.Inner = bad
		l = append(l, c)
	}
	for _, bad := range []int{math.MinInt, -1, 0, 3, math.MaxInt} { // a leaf takes two
		c := twenty()
		c.Fill = bad
		l = append(l, c)
	}
	for _, bad := range []int{math.MinInt, -1, 0, 65, math.MaxInt} {
		c := twenty()
		c.Block = bad
		l = append(l, c)
	}
	return append(l, api.Config{})
}

// goodConfigs stand at the bounds.
func goodConfigs() []api.Config {
	return []api.Config{
		{Nodes: 1, Leaf: 2, Inner: 3, Fill: 1, Block: 1},
		{Nodes: 65536, Leaf: 64, Inner: 64, Fill: 64, Block: 64},
		{Nodes: 65536, Leaf: 2, Inner: 3, Fill: 2, Block: 64},
		{Nodes: 1, Leaf: 64, Inner: 64, Fill: 1, Block: 1},
	}
}

// crowded are scripts of too many clients, or operations, and of just not too many.
func crowded(over int) []api.Script {
	c := twenty()
	each := 256 + over
	return []api.Script{
		{Config: c, Clients: make([][]api.Op, 16+over)},
		{Config: c, Clients: idlers(16+over, 1)},
		{Config: c, First: many(otherOp(0), each)},
		{Config: c, First: many(getOp("a"), each), Clients: lists(ops(getOp("a")))},
		{Config: c, Clients: idlers(1, each)},
		{Config: c, Clients: lists(nil, nil, many(getOp("a"), each))},
		{Config: c, Clients: lists(many(getOp("a"), each), nil, nil)},
		{Config: c, Clients: append(make([][]api.Op, 15), many(putOp("a", "1"), each))},
	}
}

// refused are scripts that New refuses.
func refused() []api.Script {
	l := append(crowded(1), crowded(2)...)
	for _, c := range wrongConfigs() {
		l = append(l, api.Script{Config: c}, api.Script{Config: c, First: ops(putOp("a", "1")), Clients: lists(ops(getOp("a")))})
	}
	return append(l, api.Script{}, api.Script{Config: twenty(), First: many(otherOp(0), 5000)}, api.Script{Config: twenty(), Clients: make([][]api.Op, 5000)})
}

// Each bound of New: just beyond it ErrArg, and no world.
func TestNewRefuses(t *testing.T) {
	for i, s := range refused() {
		if w, err := sched.New(s); w != nil || err != api.ErrArg {
			t.Errorf("script %d: %v %d", i, w, err)
		}
	}
}

// Just at the bounds there is a world; its clients have done nothing.
func TestNewTakes(t *testing.T) {
	l := crowded(0)
	for _, c := range goodConfigs() {
		l = append(l, api.Script{Config: c}, api.Script{Config: c, First: ops(putOp("a", "1")), Clients: idlers(16, 2)})
	}
	for i, s := range l {
		w := world(t, s)
		h := w.History()
		count := 0
		for _, ops := range s.Clients {
			count += len(ops)
		}
		if len(h.Calls) != 0 || h.Steps != 0 || len(h.Held) != 0 || h.Done != (count == 0) || w.Done() != h.Done {
			t.Errorf("script %d: %s", i, told(h))
		}
		a := w.Arena()
		if a.Used()+a.Left() != s.Config.Nodes {
			t.Errorf("script %d: %d and %d slots", i, a.Used(), a.Left())
		}
	}
}

// Operations may be any, and so may be their texts and numbers: New refuses none of them, and First ends.
func TestNewLooksNotAtOperations(t *testing.T) {
	odd := ops(
		api.Op{}, getOp(""), getOp(strings.Repeat("k", 1000)), putOp("", ""), putOp("k", strings.Repeat("v", 1000)), delOp(""),
		scanOp("z", "a", -5), scanOp(strings.Repeat("z", 99), "", math.MaxInt), scanOp("", "", math.MinInt),
		exportOp(math.MinInt, math.MinInt, math.MaxInt), exportOp(math.MaxInt, make([]int, 99)...), exportOp(1),
		otherOp(math.MinInt), otherOp(math.MaxInt), otherOp(6),
	)
	w := world(t, api.Script{Config: nine(), First: odd, Clients: lists(odd, odd)})
	is(t, w.History(), "start", "0 steps", "end")
	finish(t, w)
	if h := w.History(); len(h.Calls) != 2*len(odd) || len(h.Held) > 0 || len(h.End) > 0 {
		t.Fatalf("%s", told(h))
	}
}

// s.Picks is not looked at: neither which numbers there are, nor how many.
func TestNewLooksNotAtPicks(t *testing.T) {
	for _, picks := range [][]int{nil, {}, {0}, {0, 0, 0, 0, 0}, {-1, 1, 16, 99, math.MinInt, math.MaxInt}, make([]int, 100000)} {
		s := small(ops(getOp("b")))
		s.Picks = picks
		w := world(t, s)
		is(t, w.History(), "start b=1 c=2 d=3", "0 steps", "end b=1 c=2 d=3")
		pick(t, w, repeat(0, 9)...)
		is(t, w.History(), "start b=1 c=2 d=3", "0/0 get b=: 0 8 8 done there value 1", "9 steps, done", "end b=1 c=2 d=3")
	}
}

// First: all of it is done, in its order, by the configuration; its steps do not count, and its calls are not told.
func TestFirst(t *testing.T) {
	for _, x := range []struct {
		first []api.Op
		want  string
		nodes int // of the tree
	}{
		{nil, "", 1},
		{ops(), "", 1},
		{ops(putOp("a", "1")), "a=1", 1},
		{ops(putOp("a", "1"), putOp("a", "2")), "a=2", 1},
		{ops(putOp("a", "1"), delOp("a")), "", 1},
		{ops(delOp("a"), putOp("a", "1")), "a=1", 1},
		{ops(putOp("c", "3"), putOp("a", "1"), putOp("b", "2")), "a=1 b=2 c=3", 3},
		{ops(putOp("c", "3"), putOp("a", "1"), putOp("b", "2"), delOp("a"), delOp("b"), delOp("c")), "", 3},
		{ops(putOp("a", "1"), otherOp(0), getOp("a"), scanOp("", "", 9), exportOp(0), exportOp(2, 1), otherOp(-1), delOp("x"), putOp("", "1"), putOp("b", "2"), delOp("a")), "b=2", 1},
		{ops(otherOp(0)), "", 1},
		{ops(otherOp(7), putOp("a", "1"), otherOp(99)), "a=1", 1},
		{ops(exportOp(1), scanOp("", "", -1), getOp(""), putOp("a", "1")), "a=1", 1},
	} {
		w := world(t, api.Script{Config: nine(), First: x.first, Clients: lists(ops(otherOp(0)))})
		is(t, w.History(), strings.TrimSpace("start "+x.want), "0 steps", strings.TrimSpace("end "+x.want))
		if r := shape.Check(w.Arena(), nine()); !r.Sound || r.Nodes != x.nodes || len(w.Arena().Held()) > 0 {
			t.Errorf("%s: %+v", x.want, r)
		}
		pick(t, w, 0)
		is(t, w.History(), strings.TrimSpace("start "+x.want), "0/0 kind 0 b=: 0 0 -1 done error 1", "1 steps, done", strings.TrimSpace("end "+x.want))
	}
}

// A First whose operations are refused, as there is no slot left, or as a key may not be: the others are done, and the world begins with what stands then. So do clients find it.
func TestFirstRefused(t *testing.T) {
	one := api.Config{Nodes: 1, Leaf: 2, Inner: 3, Fill: 2, Block: 4}
	s := api.Script{Config: one, First: ops(putOp("b", "1"), putOp("d", "2"), putOp("c", "3"), putOp("d", "4"), putOp("", "5"), putOp("e", "6")), Clients: lists(ops(putOp("c", "9"), delOp("b"), putOp("c", "9")))}
	w := world(t, s)
	if a := w.Arena(); a.Left() != 0 || a.Used() != 1 {
		t.Fatalf("%d slots left", a.Left())
	}
	is(t, w.History(), "start b=1 d=4", "0 steps", "end b=1 d=4")
	finish(t, w)
	is(t, w.History(),
		"start b=1 d=4",
		"0/0 put c=9: 0 7 7 done error 2",
		"0/1 del b=: 8 15 15 done there",
		"0/2 put c=9: 16 23 23 done",
		"24 steps, done", "end c=9 d=4")

	// A half and a root above take the last slots: what comes behind is refused.
	three := nine()
	three.Nodes = 3
	first := []api.Op{}
	for i := range 20 {
		first = append(first, putOp(string(rune('a'+i)), fmt.Sprint(i)))
	}
	w = world(t, api.Script{Config: three, First: first})
	if r := shape.Check(w.Arena(), three); !r.Sound || w.Arena().Left() != 0 {
		t.Fatalf("%+v", r)
	}
	is(t, w.History(), "start a=0 b=1 c=2 d=3", "0 steps, done", "end a=0 b=1 c=2 d=3")
}

// The whole configuration is what First and the clients go by: how many entries a leaf takes, how many children a node, how many entries a block, how many slots there are.
func TestConfigIsHandedOn(t *testing.T) {
	var first []api.Op
	for i := range 26 {
		first = append(first, putOp(string(rune('a'+i)), "1"))
	}
	for _, x := range []struct {
		leaf, inner, block, nodes int
		levels, count             int
	}{
		{2, 3, 1, 100, 4, 23},
		{2, 64, 2, 100, 2, 14},
		{25, 3, 3, 100, 2, 3},
		{26, 3, 4, 100, 1, 1},
		{64, 64, 64, 1, 1, 1},
		{4, 3, 5, 100, 4, 16},
	} {
		c := api.Config{Nodes: x.nodes, Leaf: x.leaf, Inner: x.inner, Fill: 1, Block: x.block}
		ahead := world(t, api.Script{Config: c, First: first, Clients: lists(ops(exportOp(0)))})
		beside := world(t, api.Script{Config: c, Clients: lists(append(first[:26:26], exportOp(0)))})
		finish(t, ahead)
		finish(t, beside)
		if mark(ahead.Arena()) != mark(beside.Arena()) {
			t.Errorf("%+v: First and a client lay other trees", c)
		}
		if r := shape.Check(ahead.Arena(), c); !r.Sound || r.Levels != x.levels || r.Nodes != x.count || r.Entries != 26 {
			t.Errorf("%+v: %+v", c, r)
		}
		h := ahead.History()
		if want := streamOf(t, x.block, h.Start...); bare(h.Calls[0].Value) != want || bare(beside.History().Calls[26].Value) != want {
			t.Errorf("%+v: %s", c, told(h))
		}
	}
}

// A client's 256 operations, and those of First, are all done; so are those of 16 clients.
func TestGreatest(t *testing.T) {
	c := api.Config{Nodes: 2000, Leaf: 2, Inner: 3, Fill: 2, Block: 4}
	var l []api.Op
	for i := range 256 {
		l = append(l, putOp(fmt.Sprintf("k%03d", i*7%256), fmt.Sprint(i)))
	}
	w := world(t, api.Script{Config: c, First: l, Clients: lists(l, many(getOp("k000"), 256))})
	if got := len(w.History().Start); got != 256 {
		t.Fatalf("%d entries", got)
	}
	finish(t, w)
	h := w.History()
	if len(h.Calls) != 512 || len(h.End) != 256 || !h.Done || !shape.Check(w.Arena(), c).Sound {
		t.Fatalf("%d calls", len(h.Calls))
	}
	for i, call := range h.Calls {
		if call.Client != i/256 || call.Number != i%256 || !call.Done || !call.There || call.Err != api.OK {
			t.Fatalf("%s", toldCall(call))
		}
	}
	w = world(t, api.Script{Config: c, Clients: idlers(16, 256)})
	finish(t, w)
	if h := w.History(); len(h.Calls) != 16*256 || h.Steps != 16*256 || !h.Done {
		t.Fatalf("%d calls, %d steps", len(h.Calls), h.Steps)
	}
}
