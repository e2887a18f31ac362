package node_test

import (
	"bytes"
	"math"
	"slices"
	"testing"

	"coppice/api"
	"coppice/node"
)

// mapOf is a leaf's entries.
func mapOf(n api.Node) map[string]string {
	m := map[string]string{}
	for i, k := range n.Keys {
		m[string(k)] = string(n.Values[i])
	}
	return m
}

// checkMap holds a leaf against entries, and its head against another one's.
func checkMap(t *testing.T, n api.Node, want map[string]string, head api.Head) {
	t.Helper()
	got := mapOf(n)
	if len(got) != len(want) || len(n.Keys) != len(want) || !same(api.Node{Head: n.Head}, api.Node{Head: head}) {
		t.Fatalf("%s: want %q", told(n), want)
	}
	for k, v := range want {
		if now, is := got[k]; !is || now != v {
			t.Fatalf("%s has %q at %q, want %q", told(n), now, k, v)
		}
	}
}

// P9.1: With and Without of right leaves.
func TestOrder(t *testing.T) {
	d := dice(9)
	for count := range 70 {
		n := d.right(0, count)
		for _, key := range near(n) {
			value := d.text(d.pick(0, 1, 300))
			with := node.With(n, key, value)
			want := mapOf(n)
			_, was := want[string(key)]
			want[string(key)] = string(value)
			checkMap(t, with, want, n.Head)
			i, there := node.Find(with, key)
			if !there || !bytes.Equal(with.Keys[i], key) || !bytes.Equal(with.Values[i], value) {
				t.Fatalf("%q in %s: %d, %v", key, told(with), i, there)
			}
			back, took := node.Without(with, key)
			delete(want, string(key))
			checkMap(t, back, want, n.Head)
			if !took || !was && !same(back, n) {
				t.Fatalf("%s, then without %q: %s", told(n), key, told(back))
			}
			if again, took := node.Without(back, key); took || !same(again, back) {
				t.Fatalf("%s twice without %q: %s, %v", told(n), key, told(again), took)
			}
			if _, there := node.Find(back, key); there {
				t.Fatalf("%s has %q yet", told(back), key)
			}
		}
	}
}

// P9.1: a leaf built key by key, in any order, and taken down again.
func TestKeyByKey(t *testing.T) {
	d := dice(19)
	for range 40 {
		n, have := leaf("", 0), map[string]string{}
		for range 80 {
			key, value := d.text(d.below(3)), d.text(d.below(3))
			if d.below(3) > 0 {
				n = node.With(n, key, value)
				have[string(key)] = string(value)
			} else {
				_, is := have[string(key)]
				next, took := node.Without(n, key)
				if took != is {
					t.Fatalf("%q of %s: %v", key, told(n), took)
				}
				n = next
				delete(have, string(key))
			}
			checkMap(t, n, have, api.Head{})
			if !rightForm(n) {
				t.Fatalf("%s is not right", told(n))
			}
		}
	}
}

// checkHalves holds Split of a node against what P9.2 says of its halves.
func checkHalves(t *testing.T, n api.Node) {
	t.Helper()
	left, rest, between := node.Split(n, 7)
	keys, values, kids := slices.Concat(left.Keys, rest.Keys), slices.Concat(left.Values, rest.Values), slices.Concat(left.Kids, rest.Kids)
	if n.Level > 0 {
		keys = slices.Concat(left.Keys, [][]byte{between}, rest.Keys)
	}
	if !sameTexts(keys, n.Keys) || !sameTexts(values, n.Values) || !slices.Equal(kids, n.Kids) {
		t.Fatalf("Split of %s: %s, %s", told(n), told(left), told(rest))
	}
	for _, k := range left.Keys {
		if !less(k, between) {
			t.Fatalf("%q stands on the left of %q", k, between)
		}
	}
	for _, k := range rest.Keys {
		if less(k, between) {
			t.Fatalf("%q stands on the right of %q", k, between)
		}
	}
	if len(between) == 0 {
		return
	}
	for _, key := range append(near(n), near(left)...) {
		half := left
		if node.Beyond(left, key) {
			half = rest
		}
		if one, other := node.Child(n, key), node.Child(half, key); one != other {
			t.Fatalf("%q leads from %s to %d, from its half %s to %d", key, told(n), one, told(half), other)
		}
	}
}

// P9.2: halves of right leaves and inner nodes.
func TestHalves(t *testing.T) {
	d := dice(29)
	for count := 1; count < 80; count++ {
		for range 10 {
			checkHalves(t, d.right(0, count+1))
			checkHalves(t, d.right(1+d.below(40), count))
		}
	}
	checkHalves(t, leaf("", 0, "", "a"))
	checkHalves(t, inner(texts(""), 3, 4))
	checkHalves(t, inner(texts("", "a", "b"), 3, 4, 5, 6))
}

// P9.3: With of leaves that may be.
func TestWithMayBe(t *testing.T) {
	d := dice(39)
	full := 0
	for range 4000 {
		c := d.config()
		n := d.mayBe(c)
		if n.Level > 0 {
			continue
		}
		for _, key := range near(n) {
			if len(key) < 1 || len(key) > 64 || node.Beyond(n, key) {
				continue
			}
			with := node.With(n, key, d.text(d.pick(0, 1, 256)))
			if node.Over(with, c) != (len(with.Keys) == c.Leaf+1) {
				t.Fatalf("Over of %s in %v", told(with), c)
			}
			if node.Over(with, c) {
				full++
				c := c
				c.Leaf++
				goodCheck(t, "but for its number", with, c)
				continue
			}
			goodCheck(t, "With", with, c)
			without, _ := node.Without(with, key)
			goodCheck(t, "Without", without, c)
		}
	}
	if full < 1000 {
		t.Errorf("%d that are Over alone", full)
	}
}

// P9.3: Joined of inner nodes that may be.
func TestJoinedMayBe(t *testing.T) {
	d := dice(49)
	full := 0
	for range 4000 {
		c := d.config()
		n := d.mayBe(c)
		if n.Level == 0 {
			continue
		}
		for _, key := range near(n) {
			kid := 1 + d.below(c.Nodes)
			if len(key) < 1 || len(key) > 64 || node.Beyond(n, key) || slices.Contains(n.Kids, kid) {
				continue
			}
			joined, is := node.Joined(n, key, kid)
			if is && (node.Child(joined, key) != kid || len(joined.Kids) != len(n.Kids)+1) {
				t.Fatalf("%q and %d among %s: %s", key, kid, told(n), told(joined))
			}
			if node.Over(joined, c) != (len(joined.Kids) == c.Inner+1) {
				t.Fatalf("Over of %s in %v", told(joined), c)
			}
			if node.Over(joined, c) {
				full++
				c := c
				c.Inner++
				goodCheck(t, "but for its number", joined, c)
				continue
			}
			goodCheck(t, "Joined", joined, c)
		}
	}
	if full < 1000 {
		t.Errorf("%d that are Over alone", full)
	}
}

// P9.3: Split of nodes that may be, and of such as are Over by one.
func TestSplitMayBe(t *testing.T) {
	d := dice(59)
	for range 8000 {
		c := d.config()
		n := d.mayBe(c)
		most := c
		if d.below(2) == 0 { // by one more than c lets be
			most.Leaf, most.Inner = max(2, len(n.Keys)-1), max(3, len(n.Kids)-1)
			most.Fill = 1
		}
		left, rest, between := node.Split(n, 1+d.below(c.Nodes))
		goodCheck(t, "left", left, most)
		goodCheck(t, "right", rest, most)
		if len(rest.Keys)+len(rest.Kids) > 0 && !bytes.Equal(left.High, between) {
			t.Fatalf("Split of %s: %s, %q", told(n), told(left), between)
		}
	}
}

// P1, P3: no call panics at nodes of any form, and each answers twice the same.
func TestAnyNode(t *testing.T) {
	d := dice(69)
	configs := []api.Config{{}, config(), {Nodes: math.MaxInt, Leaf: math.MaxInt, Inner: math.MaxInt, Fill: math.MaxInt, Block: math.MaxInt}, {Nodes: math.MinInt, Leaf: -1, Inner: math.MinInt}}
	for range 1500 {
		n := d.any()
		for _, c := range configs {
			node.Config(c)
			node.Check(n, c)
			node.Over(n, c)
		}
		for _, key := range append(near(n), d.text(3)) {
			for _, value := range [][]byte{nil, key} {
				kid := d.pick(0, 1, -1, math.MinInt, math.MaxInt)
				for _, call := range calls(n, key, value, kid) {
					first, again := call.do(), call.do()
					if !slices.EqualFunc(first.nodes, again.nodes, same) || !bytes.Equal(first.text, again.text) || first.is != again.is || first.number != again.number {
						t.Fatalf("%s of %s and %q: %v, then %v", call.what, told(n), key, first, again)
					}
				}
			}
		}
	}
}

// answer is what a call told.
type answer struct {
	nodes  []api.Node
	text   []byte
	number int
	is     bool
}

type call struct {
	what string
	do   func() answer
}

// calls are all those of a node, at some arguments.
func calls(n api.Node, key, value []byte, kid int) []call {
	return []call{
		{"Check", func() answer { return answer{number: int(node.Check(n, config()))} }},
		{"Clone", func() answer { return answer{nodes: []api.Node{node.Clone(n)}} }},
		{"Beyond", func() answer { return answer{is: node.Beyond(n, key)} }},
		{"Find", func() answer { number, is := node.Find(n, key); return answer{number: number, is: is} }},
		{"Child", func() answer { return answer{number: node.Child(n, key)} }},
		{"With", func() answer { return answer{nodes: []api.Node{node.With(n, key, value)}} }},
		{"Without", func() answer { x, is := node.Without(n, key); return answer{nodes: []api.Node{x}, is: is} }},
		{"Joined", func() answer { x, is := node.Joined(n, key, kid); return answer{nodes: []api.Node{x}, is: is} }},
		{"Over", func() answer { return answer{is: node.Over(n, config())} }},
		{"Split", func() answer { l, r, k := node.Split(n, kid); return answer{nodes: []api.Node{l, r}, text: k} }},
	}
}

// checkMemory holds each call at some arguments against P3: they stay as they were, with their spare room; what comes out lies in memory of its own, and no two lists of it share any.
func checkMemory(t *testing.T, n api.Node, key, value []byte) {
	t.Helper()
	n, key, value = roomyNode(n), roomy(key), roomy(value)
	in := append(cells(n), textCell(key), textCell(value))
	was := states(in)
	for _, call := range calls(n, key, value, 7) {
		a := call.do()
		if now := states(in); !slices.Equal(now, was) {
			t.Fatalf("%s of %s and %q: an argument is another one now", call.what, told(n), key)
		}
		all := append(slices.Clone(in), textCell(a.text))
		for _, x := range a.nodes {
			all = append(all, cells(x)...)
		}
		if !apart(all) {
			t.Fatalf("%s of %s and %q: memory is shared", call.what, told(n), key)
		}
	}
}

// P3: right nodes, the edges among them, and nodes of any form.
func TestMemory(t *testing.T) {
	d := dice(79)
	all := []api.Node{{}, leaf("x", 4), leaf("x", 4, "a"), leaf("x", 4, "a", "b"), leaf("", 0, "", "b", "c"), inner(nil, 5), bounded(inner(texts("b"), 5, 6), "x", 3), inner(texts("b", "d", "f"), 5, 6, 7, 8)}
	for count := range 8 {
		all = append(all, d.right(0, count), d.right(1, count))
	}
	for range 20 {
		all = append(all, d.any())
	}
	for _, n := range all {
		for _, key := range near(n) {
			checkMemory(t, n, key, []byte("value"))
		}
		checkMemory(t, n, nil, nil)
	}
}

// P3: one text in several places, as key and as value: each answer has its own.
func TestMemoryOfOneText(t *testing.T) {
	text := []byte("m")
	up := bounded(inner([][]byte{text}, 5, 6), "", 0)
	up.High = text
	x, y, k := node.Split(up, 3)
	if !apart(slices.Concat(cells(x), cells(y), []cell{textCell(k), textCell(text)})) {
		t.Error("Split")
	}
	n := node.With(entries("a", "1"), text, text)
	if !apart(append(cells(n), textCell(text))) {
		t.Error("With")
	}
	n = api.Node{Head: api.Head{High: text}, Body: api.Body{Keys: [][]byte{text, text}, Values: [][]byte{text, text}}}
	for _, call := range calls(n, text, text, 7) {
		all := []cell{textCell(text)}
		for _, x := range call.do().nodes {
			all = append(all, cells(x)...)
		}
		if !apart(all) {
			t.Error(call.what)
		}
	}
}
