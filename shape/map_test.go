package shape_test

import (
	"bytes"
	"math"
	"testing"

	"coppice/api"
	"coppice/shape"
)

// Map of sound trees.
func TestMap(t *testing.T) {
	isMap(t, "no entries", tree{1, []api.Node{{}}}, "")
	isMap(t, "a leaf", tree{1, []api.Node{leaf("", 0, "a", "b")}}, "a b")
	isMap(t, "two leaves and no root above", tree{2, []api.Node{leaf("", 0, "m", "n"), leaf("m", 1, "a")}}, "a m n")
	isMap(t, "three levels", tall(), "b d e h m p q")
	isMap(t, "an empty leaf between", tall().set(3, leaf("m", 4)), "b d e m p q")
	isMap(t, "a leaf that is nobody's child", tall().set(6, inner(1, "m", 7, texts("g"), 1, 3)), "b d e h m p q")
	isMap(t, "from another root", tall().rooted(7), "m p q")
	isMap(t, "a slot on no chain", tall().rooted(9), "x")
}

// Map asks neither what keys are nor whether they rise: each key of each leaf, in order, beside the Value at its place.
func TestMapOfAnyKeys(t *testing.T) {
	isMap(t, "keys that fall", tree{1, []api.Node{leaf("d", 2, "c", "a"), leaf("", 0, "b", "b")}}, "c a b b")
	long := bytes.Repeat([]byte{'k'}, 300)
	x := tree{1, []api.Node{
		{Head: api.Head{Right: 2}, Body: api.Body{Keys: texts("", "b"), Values: texts("1", "", "3")}},
		{Head: api.Head{Right: 3, High: []byte("a")}, Body: api.Body{Keys: [][]byte{long, {'c'}, nil}, Values: texts("4")}},
		{Body: api.Body{Keys: texts("d"), Values: [][]byte{bytes.Repeat([]byte{'v'}, 400)}, Kids: []int{1, 2}}},
	}}
	want := toldEntries([]api.Entry{{Value: []byte("1")}, {Key: []byte("b")}, {Key: long, Value: []byte("4")}, {Key: []byte("c")}, {}, {Key: []byte("d"), Value: bytes.Repeat([]byte{'v'}, 400)}})
	if _, l, _ := look(t, x.lay(t, 9), config()); toldEntries(l) != want {
		t.Errorf("%s; not %s", toldEntries(l), want)
	}
}

// Keys without Values have none.
func TestMapWithoutValues(t *testing.T) {
	x := tall().with(2, func(n *api.Node) { n.Values = nil }).with(5, func(n *api.Node) { n.Values = n.Values[:1] })
	l := shape.Map(x.lay(t, 12))
	if toldKeys(l) != "b d e h m p q" {
		t.Fatalf("%s", toldEntries(l))
	}
	for i, want := range []string{"value of b", "", "", "value of h", "value of m", "value of p", ""} {
		if string(l[i].Value) != want {
			t.Errorf("%q has %q; not %q", l[i].Key, l[i].Value, want)
		}
	}
}

// A node of a Level below 0 is a leaf; one of any Level above is none.
func TestMapOfLevels(t *testing.T) {
	for _, level := range []int{-1, -7, math.MinInt} {
		isMap(t, "the root", tree{1, []api.Node{leaf("", 0, "a")}}.with(1, func(n *api.Node) { n.Level = level }), "a")
		isMap(t, "the first leaf", tall().with(1, func(n *api.Node) { n.Level = level }), "b d e h m p q")
		isMap(t, "a leaf between", tall().with(3, func(n *api.Node) { n.Level = level }), "b d e h m p q")
	}
	for _, level := range []int{1, 2, 3, 33, math.MaxInt} {
		isMap(t, "the root", tall().with(8, func(n *api.Node) { n.Level = level }), "b d e h m p q")
		isMap(t, "an inner node", tall().with(6, func(n *api.Node) { n.Level = level }), "b d e h m p q")
		isMap(t, "a leaf that has no Kids", tall().with(1, func(n *api.Node) { n.Level = level }), "")
	}
	isMap(t, "the root, past a level", tall().set(8, inner(2, "", 0, nil, 2)), "d e h m p q")
	isMap(t, "down from a low level to a high one", tall().set(9, inner(1, "", 0, nil, 8)).rooted(9), "b d e h m p q")
}

// It ends at a number that is not that of a taken slot.
func TestMapEndsAtNoNode(t *testing.T) {
	for _, id := range []int{0, 10, 12, 13, 21, -1, math.MinInt, math.MaxInt, api.MaxNodes + 1} {
		isMap(t, "behind a leaf", tall().set(2, leaf("g", id, "d", "e")), "b d e")
		isMap(t, "behind the first leaf", tall().set(1, leaf("d", id, "b")), "b")
		isMap(t, "down from the root", tall().set(8, inner(2, "", 0, texts("m"), id, 7)), "")
		isMap(t, "down to the leaves", tall().set(6, inner(1, "m", 7, texts("d", "g"), id, 2, 3)), "")
	}
}

// It ends at a node that was met already: a leaf, or one on the way down.
func TestMapEndsAtNodeMet(t *testing.T) {
	isMap(t, "a leaf, itself", tall().set(2, leaf("g", 2, "d", "e")), "b d e")
	isMap(t, "a leaf, the first", tall().set(5, leaf("z", 1, "p", "q")), "b d e h m p q")
	isMap(t, "a leaf, one between", tall().set(5, leaf("z", 3, "p", "q")), "b d e h m p q")
	isMap(t, "a lone leaf", tree{1, []api.Node{leaf("m", 1, "a")}}, "a")
	isMap(t, "the root, itself", tall().set(8, inner(2, "", 0, texts("m"), 8, 7)), "")
	isMap(t, "a node below the root, itself", tall().set(6, inner(1, "m", 7, nil, 6)), "")
	isMap(t, "a node below the root, the root", tall().set(6, inner(1, "m", 7, nil, 8)), "")
}

// It ends at an inner node without Kids, whatever keys and Right it has.
func TestMapEndsWithoutKids(t *testing.T) {
	isMap(t, "the root", tall().set(8, inner(2, "", 0, nil)), "")
	isMap(t, "a root with keys and a Right", tall().set(8, inner(2, "z", 1, texts("m"))), "")
	isMap(t, "one below", tall().set(6, inner(1, "m", 7, texts("d", "g"))), "")
}

// It ends at an inner node to which a leaf leads, met or not, with Kids or without.
func TestMapEndsAtInnerNode(t *testing.T) {
	isMap(t, "above it", tall().set(3, leaf("m", 6, "h")), "b d e h")
	isMap(t, "the root", tall().set(3, leaf("m", 8, "h")), "b d e h")
	isMap(t, "beside the way", tall().set(3, leaf("m", 7, "h")), "b d e h")
	isMap(t, "on no chain, with new leaves", tall().set(9, inner(1, "", 0, nil, 4)).set(3, leaf("m", 9, "h")), "b d e h")
	isMap(t, "on no chain, without Kids", tall().set(9, inner(1, "m", 4, nil)).set(3, leaf("m", 9, "h")), "b d e h")
}

// Map looks at no latch.
func TestMapOfHeld(t *testing.T) {
	a := tall().lay(t, 12)
	hold(t, a, 1, 2, 6, 8)
	if l := shape.Map(a); toldKeys(l) != "b d e h m p q" {
		t.Errorf("%s", toldEntries(l))
	}
}
