package shape_test

import (
	"bytes"
	"math"
	"slices"
	"testing"

	"coppice/api"
	"coppice/arena"
	"coppice/shape"
)

// The rows of the chapter's table of examples.
func TestExamples(t *testing.T) {
	c := config()
	isSound(t, "a new arena", tree{1, []api.Node{{}}}, c, 1, 1, 0)
	isPacked(t, "a new arena", tree{1, []api.Node{{}}}, c, true)

	a := small().lay(t, 12)
	hold(t, a, 2)
	if r, _, is := look(t, a, c); r != (api.Report{Node: 2, Err: api.ErrArenaLatch}) || is {
		t.Errorf("a held latch: %+v, %v", r, is)
	}

	isSound(t, "three nodes", small(), c, 2, 3, 3)
	isMap(t, "three nodes", small(), "a m z")
	isSound(t, "2 not a child", small().set(3, inner(1, "", 0, nil, 1)), c, 2, 3, 3)
	isWrong(t, "the key l", small().set(3, inner(1, "", 0, texts("l"), 1, 2)), c, 3, api.ErrShapeChild)
	isWrong(t, "Right is 1", tree{1, []api.Node{leaf("m", 1)}}, c, 1, api.ErrShapeChain)
}

// An arena as New gives it: of as few and as many slots as may be.
func TestNewArena(t *testing.T) {
	for _, slots := range []int{1, 2, 9, api.MaxNodes} {
		a, _ := arena.New(slots)
		r, l, is := look(t, a, config())
		if r != (api.Report{Sound: true, Levels: 1, Nodes: 1}) || len(l) != 0 || !is {
			t.Errorf("%d slots: %+v, %v, %v", slots, r, l, is)
		}
	}
}

// A nil arena: ErrArg, nothing, false, by any configuration.
func TestNilArena(t *testing.T) {
	for _, c := range []api.Config{config(), {}, {Nodes: -1}} {
		if r := shape.Check(nil, c); r != (api.Report{Err: api.ErrArg}) {
			t.Errorf("Check: %+v", r)
		}
		if shape.Packed(nil, c) {
			t.Error("Packed")
		}
	}
	if l := shape.Map(nil); len(l) != 0 {
		t.Errorf("Map: %v", l)
	}
}

// badConfigs are those that node's Config refuses, each for one thing.
func badConfigs() []api.Config {
	var l []api.Config
	put := func(turn func(c *api.Config, n int), numbers ...int) {
		for _, n := range append(numbers, math.MinInt, -1, math.MaxInt) {
			c := config()
			turn(&c, n)
			l = append(l, c)
		}
	}
	put(func(c *api.Config, n int) { c.Nodes = n }, 0, 65537)
	put(func(c *api.Config, n int) { c.Leaf = n }, 0, 1, 65)
	put(func(c *api.Config, n int) { c.Inner = n }, 0, 2, 65)
	put(func(c *api.Config, n int) { c.Fill = n }, 0, 3)
	put(func(c *api.Config, n int) { c.Block = n }, 0, 65)
	return append(l, api.Config{})
}

// A configuration that may not be is told ahead of all else: of sound trees, of wrong ones, of held latches.
func TestConfigRefused(t *testing.T) {
	sound, wrong, held := small().lay(t, 12), small().set(1, leaf("m", 1, "a")).lay(t, 12), small().lay(t, 12)
	hold(t, held, 1, 2, 3)
	for _, c := range badConfigs() {
		for _, a := range []*arena.Arena{sound, wrong, held} {
			if r, l, is := look(t, a, c); r != (api.Report{Err: api.ErrArg}) || is || len(l) == 0 {
				t.Errorf("%+v: %+v, %v", c, r, is)
			}
		}
	}
}

// A configuration that may be is held against the nodes, not against the arena's slots.
func TestConfigOfOthers(t *testing.T) {
	c := config()
	c.Nodes = 9
	isSound(t, "as many nodes as slots", tall(), c, 3, 8, 7)
	c.Nodes = 7
	isSound(t, "a root beyond Nodes", tall(), c, 3, 8, 7)
	c.Nodes = 6
	isWrong(t, "a Kid beyond Nodes", tall(), c, 8, api.ErrNodeForm)
	isSound(t, "many nodes", tall(), api.Config{Nodes: 65536, Leaf: 64, Inner: 64, Fill: 64, Block: 64}, 3, 8, 7)
	isSound(t, "another Fill and Block", tall(), api.Config{Nodes: 12, Leaf: 2, Inner: 3, Fill: 1, Block: 1}, 3, 8, 7)
	full := small().set(2, leaf("", 0, "m", "n", "z"))
	isWrong(t, "three entries, Leaf 2", full, config(), 2, api.ErrNodeForm)
	c = config()
	c.Leaf = 3
	isSound(t, "three entries, Leaf 3", full, c, 2, 3, 4)
	c.Inner = 4
	wide := tree{5, []api.Node{leaf("b", 2, "a"), leaf("c", 3, "b"), leaf("d", 4, "c"), leaf("", 0, "d"), inner(1, "", 0, texts("b", "c", "d"), 1, 2, 3, 4)}}
	isSound(t, "four Kids, Inner 4", wide, c, 2, 5, 4)
	isWrong(t, "four Kids, Inner 3", wide, config(), 5, api.ErrNodeForm)
}

// Held latches: each one, several (the least is told), one of a slot on no chain; ahead of all that is wrong with nodes.
func TestHeldLatches(t *testing.T) {
	broken := tall().set(1, leaf("d", 1, "z"))
	for _, ids := range [][]int{{1}, {2}, {5}, {6}, {8}, {9}, {8, 9}, {9, 3}, {7, 5, 6}, {9, 8, 7, 6, 5, 4, 3, 2, 1}} {
		for _, x := range []tree{tall(), broken} {
			a := x.lay(t, 12)
			hold(t, a, ids...)
			if r, _, is := look(t, a, config()); r != (api.Report{Node: slices.Min(ids), Err: api.ErrArenaLatch}) || is {
				t.Errorf("held %d: %+v, %v", ids, r, is)
			}
		}
	}
	a := tall().lay(t, 12)
	hold(t, a, 3, 6)
	for _, id := range []int{3, 6} {
		if r := shape.Check(a, config()); r.Node != id || r.Err != api.ErrArenaLatch {
			t.Errorf("%d is held: %+v", id, r)
		}
		a.Unlock(id, false)
	}
	if r := shape.Check(a, config()); !r.Sound {
		t.Errorf("none is held: %+v", r)
	}
	if id, err := a.Alloc(); id != 10 || err != api.OK {
		t.Fatalf("Alloc: %d, %d", id, err)
	}
	if r := shape.Check(a, config()); r != (api.Report{Node: 10, Err: api.ErrArenaLatch}) {
		t.Errorf("a slot was taken: %+v", r)
	}
}

// Sound trees: of one level and of more, with empty leaves, with roots that have right brothers, with slots on no chain.
func TestSound(t *testing.T) {
	c := config()
	isSound(t, "a leaf", tree{1, []api.Node{leaf("", 0, "a", "b")}}, c, 1, 1, 2)
	isSound(t, "two leaves and no root above", tree{2, []api.Node{leaf("", 0, "m", "n"), leaf("m", 1, "a")}}, c, 1, 2, 3)
	isSound(t, "the root in any slot", tree{3, []api.Node{{}, leaf("", 0, "q"), leaf("", 0, "x")}}, c, 1, 1, 1)
	isSound(t, "three levels", tall(), c, 3, 8, 7)
	isSound(t, "packed", packed(), c, 3, 9, 11)
	isSound(t, "empty leaves", tall().set(1, leaf("d", 2)).set(4, leaf("p", 5)).set(5, leaf("", 0)), c, 3, 8, 3)
	isSound(t, "a tree below another root", tall().rooted(6), c, 2, 7, 7)
	isSound(t, "leaves alone", tall().rooted(1), c, 1, 5, 7)
	isSound(t, "a part of the leaves", tall().rooted(4), c, 1, 2, 3)
	isSound(t, "a zero node on no chain", tall().set(9, api.Node{}), c, 3, 8, 7)
	isSound(t, "junk on no chain", tall().set(9, inner(40, "z", -7, texts("", "z", "a"), 9, 9, -1)), c, 3, 8, 7)
}

// Nodes that are nobody's children are come to by their left brothers; a tree may have many of them.
func TestNobodysChild(t *testing.T) {
	c := config()
	isSound(t, "2 is no child", tall().set(6, inner(1, "m", 7, texts("g"), 1, 3)), c, 3, 8, 7)
	isSound(t, "2 and 3 are none", tall().set(6, inner(1, "m", 7, nil, 1)), c, 3, 8, 7)
	isSound(t, "5 is none", tall().set(7, inner(1, "", 0, nil, 4)), c, 3, 8, 7)
	isSound(t, "7 is none", tall().set(8, inner(2, "", 0, nil, 6)), c, 3, 8, 7)
	isSound(t, "all but the first are none", tall().set(6, inner(1, "", 0, nil, 1)).set(8, inner(2, "", 0, nil, 6)), c, 3, 7, 7)
}

// The highest level that may be, and the one above it.
func TestManyLevels(t *testing.T) {
	x := tree{33, []api.Node{leaf("", 0, "a")}}
	for level := 1; level <= api.MaxLevel; level++ {
		x.nodes = append(x.nodes, inner(level, "", 0, nil, level))
	}
	c := config()
	c.Nodes = 40
	check := func(what string, x tree, want api.Report) {
		if r, _, _ := look(t, x.lay(t, 40), c); r != want {
			t.Errorf("%s: %+v; not %+v", what, r, want)
		}
	}
	check("33 levels", x, api.Report{Sound: true, Levels: 33, Nodes: 33, Entries: 1})
	x.nodes = append(x.nodes, inner(33, "", 0, nil, 33))
	check("34 levels", x.rooted(34), api.Report{Node: 34, Err: api.ErrNodeForm})
	check("a wrong leaf far below", x.set(1, leaf("", 0, "")), api.Report{Node: 1, Err: api.ErrNodeForm})
}

// A root that is not right by itself is told as a node: its own level is the level.
func TestWrongRoot(t *testing.T) {
	for _, level := range []int{-1, -2, math.MinInt, 33, 34, math.MaxInt} {
		isWrong(t, "an empty root's level", tree{1, []api.Node{{Head: api.Head{Level: level}}}}, config(), 1, api.ErrNodeForm)
		x := tall().with(8, func(n *api.Node) { n.Level = level })
		isWrong(t, "a root's level", x, config(), 8, api.ErrNodeForm)
	}
	isWrong(t, "a root without Kids", tall().set(8, inner(2, "", 0, nil)), config(), 8, api.ErrNodeForm)
	isWrong(t, "a root with a High alone", small().set(3, inner(1, "z", 0, texts("m"), 1, 2)), config(), 3, api.ErrNodeForm)
	isWrong(t, "a root with a Right alone", small().set(3, inner(1, "", 3, texts("m"), 1, 2)), config(), 3, api.ErrNodeForm)
	isWrong(t, "a leaf with a Kid", tree{1, []api.Node{inner(0, "", 0, nil, 1)}}, config(), 1, api.ErrNodeForm)
	isWrong(t, "a level too many", tall().with(8, func(n *api.Node) { n.Level = 3 }), config(), 6, api.ErrShapeLevel)
	isWrong(t, "a level too few", tall().with(8, func(n *api.Node) { n.Level = 1 }), config(), 6, api.ErrShapeLevel)
	isWrong(t, "an inner root as a leaf", tall().with(8, func(n *api.Node) { n.Level = 0 }), config(), 8, api.ErrNodeForm)
}

// A chain that leads to a number that is not taken: that number is told.
func TestChainToNoNode(t *testing.T) {
	c, err := config(), api.ErrArenaNode
	isWrong(t, "behind the last slot", tall().set(5, leaf("z", 10, "p")), c, 10, err)
	isWrong(t, "further behind", tall().set(5, leaf("z", 12, "p")), c, 12, err)
	isWrong(t, "in the middle", tall().set(2, leaf("g", 11, "d")), c, 11, err)
	isWrong(t, "in an inner level", tall().set(6, inner(1, "m", 10, nil, 1)), c, 10, err)
	isWrong(t, "from the root", tall().set(8, inner(2, "m", 11, nil, 6)), c, 11, err)
	isWrong(t, "from a root that is a leaf", tree{1, []api.Node{leaf("m", 2, "a")}}, c, 2, err)
	isWrong(t, "down from the root", tall().set(8, inner(2, "", 0, texts("m"), 10, 7)), c, 10, err)
	isWrong(t, "down to the leaves", tall().set(6, inner(1, "m", 7, texts("d", "g"), 12, 2, 3)), c, 12, err)
	isWrong(t, "below 1", tall().set(5, leaf("z", -1, "p")), c, 5, api.ErrNodeForm)
	isWrong(t, "beyond Nodes", tall().set(5, leaf("z", 13, "p")), c, 5, api.ErrNodeForm)
	isWrong(t, "down to 0", tall().set(6, inner(1, "m", 7, nil, 0)), c, 6, api.ErrNodeForm)
}

// A chain that leads back to a node of its level, or of one above.
func TestChainBack(t *testing.T) {
	c, err := config(), api.ErrShapeChain
	isWrong(t, "to itself", tall().set(5, leaf("z", 5, "p")), c, 5, err)
	isWrong(t, "to the first", tall().set(5, leaf("z", 1, "p")), c, 1, err)
	isWrong(t, "to one between", tall().set(5, leaf("z", 3, "p")), c, 3, err)
	isWrong(t, "to the one ahead", tall().set(2, leaf("g", 1, "d")), c, 1, err)
	isWrong(t, "an inner node to itself", tall().set(7, inner(1, "z", 7, texts("p"), 4, 5)), c, 7, err)
	isWrong(t, "an inner node to the one ahead", tall().set(7, inner(1, "z", 6, texts("p"), 4, 5)), c, 6, err)
	isWrong(t, "the root to itself", tall().set(8, inner(2, "z", 8, texts("m"), 6, 7)), c, 8, err)
	isWrong(t, "a leaf to a node of the level above", tall().set(5, leaf("z", 7, "p")), c, 7, err)
	isWrong(t, "a leaf to the root", tall().set(5, leaf("z", 8, "p")), c, 8, err)
	isWrong(t, "an inner node to the root", tall().set(7, inner(1, "z", 8, texts("p"), 4, 5)), c, 8, err)
	isWrong(t, "down to itself", tall().set(8, inner(2, "", 0, texts("m"), 8, 7)), c, 8, err)
	isWrong(t, "down to its own level", tall().set(6, inner(1, "m", 7, texts("d", "g"), 7, 2, 3)), c, 7, err)
	isWrong(t, "down to the root", tall().set(6, inner(1, "m", 7, texts("d", "g"), 8, 2, 3)), c, 8, err)
}

// A Level that is not the level's: of a first node, of one behind it, one more, one less.
func TestLevels(t *testing.T) {
	c, err := config(), api.ErrShapeLevel
	for _, level := range []int{1, 2, -1, 33, math.MinInt, math.MaxInt} {
		for _, id := range []int{1, 3, 5} {
			isWrong(t, "a leaf", tall().with(id, func(n *api.Node) { n.Level = level }), c, id, err)
		}
	}
	for _, level := range []int{0, 2, 3, -1, math.MinInt, math.MaxInt} {
		for _, id := range []int{6, 7} {
			isWrong(t, "an inner node", tall().with(id, func(n *api.Node) { n.Level = level }), c, id, err)
		}
	}
	isWrong(t, "down past a level", tall().set(8, inner(2, "", 0, texts("m"), 1, 7)), c, 1, err)
	isWrong(t, "from an inner node to a leaf", tall().set(6, inner(1, "m", 4, texts("d", "g"), 1, 2, 3)), c, 4, err)
	isWrong(t, "from the root to a node below", tall().set(8, inner(2, "m", 7, nil, 6)), c, 7, err)
	isWrong(t, "a leaf to an inner node on no chain", tall().set(9, inner(1, "", 0, nil, 1)).set(5, leaf("z", 9, "p")), c, 9, err)
}

// Nodes that may not be, in each level.
func TestForms(t *testing.T) {
	long := func(size int) string { return string(bytes.Repeat([]byte{'p'}, size)) }
	c, err := config(), api.ErrNodeForm
	isWrong(t, "too many entries", tall().set(3, leaf("m", 4, "g", "h", "i")), c, 3, err)
	isWrong(t, "keys that fall", tall().set(3, leaf("m", 4, "h", "g")), c, 3, err)
	isWrong(t, "keys alike", tall().set(3, leaf("m", 4, "h", "h")), c, 3, err)
	isWrong(t, "a key at High", tall().set(3, leaf("m", 4, "m")), c, 3, err)
	isWrong(t, "a High and no Right", tall().set(5, leaf("z", 0, "p")), c, 5, err)
	isWrong(t, "a Right and no High", tall().set(4, leaf("", 5, "m")), c, 4, err)
	isSound(t, "a long key", tall().set(5, leaf("", 0, long(64))), c, 3, 8, 6)
	isWrong(t, "a key too long", tall().set(5, leaf("", 0, long(65))), c, 5, err)
	isWrong(t, "a key without bytes", tall().set(1, leaf("d", 2, "")), c, 1, err)
	isWrong(t, "no values", tall().with(4, func(n *api.Node) { n.Values = nil }), c, 4, err)
	isSound(t, "a long value", tall().with(4, func(n *api.Node) { n.Values[0] = make([]byte, 256) }), c, 3, 8, 7)
	isWrong(t, "a value too long", tall().with(4, func(n *api.Node) { n.Values[0] = make([]byte, 257) }), c, 4, err)
	isWrong(t, "a leaf with Kids", tall().with(4, func(n *api.Node) { n.Kids = []int{5} }), c, 4, err)
	isWrong(t, "an inner node with Values", tall().with(7, func(n *api.Node) { n.Values = texts("v") }), c, 7, err)
	isWrong(t, "Kids alike", tall().set(7, inner(1, "", 0, texts("p"), 4, 4)), c, 7, err)
	isWrong(t, "a Kid too few", tall().set(7, inner(1, "", 0, texts("p"), 4)), c, 7, err)
	isWrong(t, "too many Kids", tall().set(6, inner(1, "m", 7, texts("d", "g", "h"), 1, 2, 3, 4)), c, 6, err)
}

// Low: a key at it may be, one below may not; High must be above it. Bytes count, and what begins a key comes ahead of it.
func TestLow(t *testing.T) {
	c, err := config(), api.ErrShapeChain
	isSound(t, "a key at Low", tall().set(3, leaf("m", 4, "g")), c, 3, 8, 7)
	isWrong(t, "a key below Low", tall().set(3, leaf("m", 4, "f")), c, 3, err)
	isWrong(t, "just below", tall().set(3, leaf("m", 4, "f\xff")), c, 3, err)
	isWrong(t, "the first of two below", tall().set(3, leaf("m", 4, "f", "h")), c, 3, err)
	isWrong(t, "below Low of the last", tall().set(5, leaf("", 0, "o")), c, 5, err)
	isWrong(t, "far below Low of the last", tall().set(5, leaf("", 0, "a", "q")), c, 5, err)
	isWrong(t, "High at Low", tall().set(3, leaf("g", 4)), c, 3, err)
	isWrong(t, "High below Low", tall().set(3, leaf("f", 4)), c, 3, err)
	isWrong(t, "High and a key below Low", tall().set(3, leaf("f", 4, "e")), c, 3, err)
	isWrong(t, "a Low that is too high", tall().set(2, leaf("i", 3, "d", "e")), c, 3, err)
	isWrong(t, "an inner key below Low", tall().set(7, inner(1, "", 0, texts("l"), 4, 5)), c, 7, err)
	isWrong(t, "an inner High at Low", tall().set(7, inner(1, "m", 9, nil, 4)), c, 7, err)
	isWrong(t, "an inner High below Low", tall().set(7, inner(1, "l", 9, nil, 4)), c, 7, err)

	two := func(low string, high string, keys ...string) tree {
		return tree{1, []api.Node{leaf(low, 2), leaf(high, 3, keys...), leaf("", 0)}}
	}
	isSound(t, "High just above Low", two("g", "g\x00"), c, 1, 3, 0)
	isSound(t, "and a key between", two("g", "g\x00", "g"), c, 1, 3, 1)
	isWrong(t, "High begins Low", two("g\x00", "g"), c, 2, err)
	isSound(t, "bytes without a sign", two("\x7f", "\x80"), c, 1, 3, 0)
	isWrong(t, "bytes without a sign, the other way", two("\x80", "\x7f"), c, 2, err)
	isWrong(t, "a longer one below", two("b", "ab"), c, 2, err)
	isSound(t, "all below the first High", tree{1, []api.Node{leaf("\x00\x00", 2, "\x00"), leaf("", 0, "\x00\x00")}}, c, 1, 2, 2)
}

// Kids that are not in the chain: on none, not taken, of a level above, of the level itself, of one further below.
func TestKidElsewhere(t *testing.T) {
	c, err := config(), api.ErrShapeChild
	isWrong(t, "on no chain", tall().set(7, inner(1, "", 0, texts("p"), 4, 9)), c, 7, err)
	isWrong(t, "on no chain, in the middle", tall().set(6, inner(1, "m", 7, texts("d", "g"), 1, 9, 3)), c, 6, err)
	isWrong(t, "not taken", tall().set(7, inner(1, "", 0, texts("p"), 4, 10)), c, 7, err)
	isWrong(t, "the root", tall().set(7, inner(1, "", 0, texts("p"), 4, 8)), c, 7, err)
	isWrong(t, "itself", tall().set(7, inner(1, "", 0, texts("p"), 4, 7)), c, 7, err)
	isWrong(t, "its brother", tall().set(7, inner(1, "", 0, texts("p"), 4, 6)), c, 7, err)
	isWrong(t, "a leaf of the root", tall().set(8, inner(2, "", 0, texts("m"), 6, 4)), c, 8, err)
	isWrong(t, "a first Kid of a second node", tall().set(7, inner(1, "", 0, texts("p"), 9, 5)), c, 7, err)
	isWrong(t, "a chain cut off", tall().set(3, leaf("", 0, "h")), c, 7, err)
	isWrong(t, "a chain cut off above", tall().set(6, inner(1, "", 0, texts("d", "g"), 1, 2, 3)), c, 8, err)
}

// A Kid of a level above that has the Low it should have is not in the chain either.
func TestKidOfLevelAbove(t *testing.T) {
	// 6 is the root's right brother, its Low m; the node 4 has it as a Kid behind m.
	x := tree{5, []api.Node{
		leaf("m", 2, "a"),
		leaf("", 0, "m"),
		inner(1, "", 0, nil, 1),
		inner(1, "", 0, texts("m"), 1, 6),
		inner(2, "m", 6, nil, 4),
		inner(2, "", 0, nil, 3),
	}}
	isWrong(t, "it is above", x, config(), 6, api.ErrShapeChild)
	x.nodes[5].Kids = []int{3}
	x.nodes[3] = inner(1, "m", 3, nil, 1)
	x.nodes[2] = inner(1, "", 0, nil, 2)
	isSound(t, "two and two", x, config(), 3, 6, 2)
	isWrong(t, "a Kid above", x.set(3, inner(1, "", 0, nil, 6)), config(), 3, api.ErrShapeChild)
}

// A Kid whose Low is not the key ahead of it; of a first Kid: not the Low of the node above.
func TestKidOfAnotherLow(t *testing.T) {
	c, err := config(), api.ErrShapeChild
	isWrong(t, "a key too low", tall().set(6, inner(1, "m", 7, texts("c", "g"), 1, 2, 3)), c, 6, err)
	isWrong(t, "a key too high", tall().set(6, inner(1, "m", 7, texts("d", "h"), 1, 2, 3)), c, 6, err)
	isWrong(t, "a key too long", tall().set(6, inner(1, "m", 7, texts("d", "g\x00"), 1, 2, 3)), c, 6, err)
	isWrong(t, "a brother of the Kid", tall().set(6, inner(1, "m", 7, texts("d"), 1, 3)), c, 6, err)
	isWrong(t, "Kids the other way", tall().set(6, inner(1, "m", 7, texts("d", "g"), 1, 3, 2)), c, 6, err)
	isWrong(t, "the last node's key", tall().set(7, inner(1, "", 0, texts("o"), 4, 5)), c, 7, err)
	isWrong(t, "the root's key", tall().set(8, inner(2, "", 0, texts("n"), 6, 7)), c, 8, err)
	isWrong(t, "a first Kid too far behind", tall().set(7, inner(1, "", 0, nil, 5)), c, 7, err)
	isWrong(t, "a first Kid too early", tall().set(7, inner(1, "", 0, texts("p"), 3, 5)), c, 7, err)
	isWrong(t, "the very first leaf", tall().set(7, inner(1, "", 0, texts("p"), 1, 5)), c, 7, err)
	isWrong(t, "the very first leaf behind a key", tall().set(6, inner(1, "m", 7, texts("d"), 2, 1)), c, 6, err)
	isWrong(t, "another High below", tall().set(2, leaf("f", 3, "d", "e")), c, 6, err)
	isWrong(t, "another High above", tall().set(6, inner(1, "n", 7, texts("d", "g"), 1, 2, 3)), c, 8, err)
	isSound(t, "the first node's first Kid", tall().set(6, inner(1, "m", 7, nil, 2)), c, 3, 7, 6)
}
