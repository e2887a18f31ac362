package shape_test

import (
	"bytes"
	"testing"

	"coppice/api"
	"coppice/node"
	"coppice/shape"
)

// compare holds all three calls of a tree against the chapter's words, and tells what Check told.
func compare(t *testing.T, x tree, c api.Config, slots int, held ...int) api.Report {
	t.Helper()
	a := x.lay(t, slots)
	hold(t, a, held...)
	r, l, is := look(t, a, c)
	if want := wordsCheck(x, c, held); r != want {
		t.Fatalf("Check: %+v; not %+v: %+v, held %d, %v", r, want, c, held, x)
	}
	if want := wordsMap(x, x.root, nil); toldEntries(l) != toldEntries(want) {
		t.Fatalf("Map: %s; not %s: %v", toldEntries(l), toldEntries(want), x)
	}
	if want := r.Sound && wordsPacked(x, c); is != want {
		t.Fatalf("Packed: %v: %+v, %v", is, c, x)
	}
	if r.Sound {
		checkOnePlace(t, x, l)
	}
	return r
}

// checkOnePlace holds a sound tree against P11.1.
func checkOnePlace(t *testing.T, x tree, l []api.Entry) {
	t.Helper()
	for i := 1; i < len(l); i++ {
		if bytes.Compare(l[i-1].Key, l[i].Key) >= 0 {
			t.Fatalf("%q behind %q: %v", l[i].Key, l[i-1].Key, x)
		}
	}
	leaves, holders := reached(x)
	for _, e := range l {
		if holders[string(e.Key)] != 1 {
			t.Fatalf("%q is in %d leaves: %v", e.Key, holders[string(e.Key)], x)
		}
		if found, is := node.Find(goDown(x, e.Key), e.Key); !is {
			t.Fatalf("%q is not come to (%d): %v", e.Key, found, x)
		}
	}
	n := x.nodes[x.root-1]
	for n.Level > 0 {
		n = x.nodes[n.Kids[0]-1]
	}
	chain, entries := 1, len(n.Keys)
	for ; n.Right != 0; chain, entries = chain+1, entries+len(n.Keys) {
		n = x.nodes[n.Right-1]
	}
	if chain != leaves || entries != len(l) || len(holders) != len(l) {
		t.Fatalf("%d leaves, of which %d are come to; %d entries, of which %d are come to: %v", chain, leaves, len(l), len(holders), x)
	}
}

// reached tells how many leaves are come to from the root by Kids and Rights, and of each key, in how many of them it is.
func reached(x tree) (int, map[string]int) {
	leaves, holders := 0, map[string]int{}
	for _, id := range x.comeTo() {
		if n := x.nodes[id-1]; n.Level == 0 {
			leaves++
			for _, k := range n.Keys {
				holders[string(k)]++
			}
		}
	}
	return leaves, holders
}

// goDown is the leaf that a key leads to, by Child and Right.
func goDown(x tree, key []byte) api.Node {
	n := x.nodes[x.root-1]
	for n.Level > 0 || node.Beyond(n, key) {
		if node.Beyond(n, key) {
			n = x.nodes[n.Right-1]
		} else {
			n = x.nodes[node.Child(n, key)-1]
		}
	}
	return n
}

// P11.1, and Check, Map, Packed of sound trees of many shapes.
func TestManySound(t *testing.T) {
	packed, levels := 0, map[int]int{}
	for seed := range 1500 {
		d := dice(seed)
		c := d.config(40)
		x := d.sound(c, 1+d.below(14), 1+d.below(4), d.below(2) == 0)
		r := compare(t, x, c, 40)
		if !r.Sound {
			t.Fatalf("seed %d: %+v, %+v: %v", seed, r, c, x)
		}
		levels[r.Levels]++
		if wordsPacked(x, c) {
			packed++
		}
	}
	if packed < 100 || packed > 1000 || len(levels) != 4 {
		t.Errorf("%d packed; levels %v", packed, levels)
	}
}

// Trees of which one thing, or two, are other ones; some latches are held now and then.
func TestManyTurned(t *testing.T) {
	told := map[api.Errno]int{}
	for seed := range 12000 {
		d := dice(seed)
		c := d.config(16 + d.below(16))
		x := d.sound(c, 1+d.below(6), 1+d.below(4), d.below(3) == 0)
		for range 1 + d.below(2) {
			x = d.turned(x, c)
		}
		var held []int
		if d.below(20) == 0 {
			held = d.shuffled(len(x.nodes))[:1+d.below(3)]
		}
		told[compare(t, x, c, 40, held...).Err]++
	}
	for _, err := range []api.Errno{api.OK, api.ErrNodeForm, api.ErrArenaNode, api.ErrArenaLatch, api.ErrShapeLevel, api.ErrShapeChain, api.ErrShapeChild} {
		if told[err] < 150 {
			t.Errorf("error %d: %d times", err, told[err])
		}
	}
}

// P1: trees of any form, by any configuration.
func TestManyOfAnyForm(t *testing.T) {
	bad := badConfigs()
	for seed := range 6000 {
		d := dice(seed)
		x := d.any(1 + d.below(7))
		compare(t, x, d.config(d.pick(1, 4, 8, 65536)), 20)
		compare(t, x, bad[d.below(len(bad))], 20)
	}
}

// Trees of few nodes, all that there are of some parts: each Right, each first Kid, each High and key out of a few.
func TestAllOfFewParts(t *testing.T) {
	c := config()
	highs := []string{"b", "d"}
	sound := 0
	for kid := range 4 {
		for other := range 4 {
			for _, key := range highs {
				for right := range 4 {
					for _, high := range highs {
						for back := range 4 {
							first, last := leaf(high, right, "a"), leaf("e", back, "d")
							if right == 0 {
								first.High = nil
							}
							if back == 0 {
								last.High = nil
							}
							x := tree{3, []api.Node{first, last, inner(1, "", 0, texts(key), kid, other)}}
							if compare(t, x, c, 4).Sound {
								sound++
							}
						}
					}
				}
			}
		}
	}
	if sound != 2 {
		t.Errorf("%d are sound", sound)
	}
}

// P3: what Map tells is new memory, its spare room too; no two lists of it share any, and the arena has none of it.
func TestMemoryOfMap(t *testing.T) {
	one := func(n *api.Node) { n.Keys[0] = []byte("one text"); n.Values[0] = n.Keys[0] }
	for _, x := range []tree{
		small(),
		packed(),
		tall().with(1, one).with(2, one).with(4, func(n *api.Node) { n.Values = nil }),
		tree{1, []api.Node{{Body: api.Body{Keys: texts("", "a"), Values: texts("", "", "")}}}},
	} {
		a := x.lay(t, 12)
		was := state(a)
		l, other := shape.Map(a), shape.Map(a)
		all := append(cells(l), cells(other)...)
		if !apart(all) {
			t.Errorf("memory is shared: %v", x)
		}
		for _, c := range all {
			c.turn()
		}
		if now := state(a); now != was {
			t.Errorf("the arena turned with an answer: %s\nfrom %s", now, was)
		}
	}
}

// P3: a tree that turns is told as it is, at each look.
func TestTellsWhatIs(t *testing.T) {
	a := small().lay(t, 12)
	set := func(id int, n api.Node) {
		word, _ := a.Word(id)
		a.Lock(id, word)
		a.SetHead(id, n.Head)
		a.SetBody(id, n.Body)
		a.Unlock(id, true)
	}
	for range 3 {
		set(1, leaf("m", 2, "a", "b"))
		if r, l, is := look(t, a, config()); r != (api.Report{Sound: true, Levels: 2, Nodes: 3, Entries: 4}) || toldKeys(l) != "a b m z" || !is {
			t.Errorf("%+v, %s, %v", r, toldKeys(l), is)
		}
		set(1, leaf("m", 1, "a"))
		if r, l, is := look(t, a, config()); r != (api.Report{Node: 1, Err: api.ErrShapeChain}) || toldKeys(l) != "a" || is {
			t.Errorf("%+v, %s, %v", r, toldKeys(l), is)
		}
	}
}

// As many nodes as an arena may have: a packed tree of 64000 leaves, and the same with its last leaf leading back.
func TestManyNodes(t *testing.T) {
	const leaves = 64000
	c := api.Config{Nodes: api.MaxNodes, Leaf: 64, Inner: 64, Fill: 1, Block: 64}
	key := func(i int) []byte { return []byte{byte(i >> 16), byte(i >> 8), byte(i)} }
	var x tree
	var chain []member
	for i := range leaves {
		chain = append(chain, member{i + 1, key(i)})
		x.nodes = append(x.nodes, api.Node{Body: api.Body{Keys: [][]byte{key(i)}, Values: [][]byte{key(i)}}})
	}
	var d dice
	link(x, chain)
	x.nodes = append(x.nodes, make([]api.Node, api.MaxNodes-leaves)...)
	next := leaves
	for level := 1; len(chain) > 1; level++ {
		chain = d.above(x, c, level, chain, true, func() int { next++; return next })
	}
	x.root = next
	a := x.lay(t, api.MaxNodes)
	want := api.Report{Sound: true, Levels: 4, Nodes: 64000 + 1000 + 16 + 1, Entries: leaves}
	if r := shape.Check(a, c); r != want {
		t.Errorf("%+v; not %+v", r, want)
	}
	if !shape.Packed(a, c) {
		t.Error("not packed")
	}
	l := shape.Map(a)
	if len(l) != leaves || !bytes.Equal(l[leaves-1].Key, key(leaves-1)) {
		t.Errorf("%d entries", len(l))
	}
	hold(t, a, leaves)
	a.SetHead(leaves, api.Head{High: []byte{255}, Right: 1})
	a.Unlock(leaves, true)
	if r := shape.Check(a, c); r != (api.Report{Node: 1, Err: api.ErrShapeChain}) {
		t.Errorf("leading back: %+v", r)
	}
	if shape.Packed(a, c) || len(shape.Map(a)) != leaves {
		t.Error("leading back: packed, or other entries")
	}
}
