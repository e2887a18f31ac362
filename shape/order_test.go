package shape_test

import (
	"testing"

	"coppice/api"
)

// Of one node: not taken, then met, then its level, then its form, then its Low.
func TestOrderWithinNode(t *testing.T) {
	c := config()
	badForm := func(n *api.Node) { n.Keys = texts("z", "a") }
	isWrong(t, "met, of another level", tall().set(5, leaf("z", 8, "p")), c, 8, api.ErrShapeChain)
	isWrong(t, "met, and below Low", tall().set(5, leaf("z", 1, "p")), c, 1, api.ErrShapeChain)
	isWrong(t, "another level and form", tall().with(3, badForm).with(3, func(n *api.Node) { n.Level = 1 }), c, 3, api.ErrShapeLevel)
	isWrong(t, "another level, below Low", tall().set(3, inner(1, "f", 4, texts("e"), 1, 2)), c, 3, api.ErrShapeLevel)
	isWrong(t, "another form, below Low", tall().with(3, badForm), c, 3, api.ErrNodeForm)
	isWrong(t, "another form, High below Low", tall().set(3, leaf("f", 4, "h")), c, 3, api.ErrNodeForm)
	isWrong(t, "wrong by itself and by its Right", tall().set(3, leaf("f", 11)), c, 3, api.ErrShapeChain)
	isWrong(t, "a form wrong, a Right back", tall().set(3, leaf("m", 3, "m")), c, 3, api.ErrNodeForm)
}

// Of one chain: the first node that is wrong, not the least number.
func TestOrderWithinChain(t *testing.T) {
	c := config()
	isWrong(t, "two forms", tall().set(2, leaf("g", 3, "e", "d")).set(4, leaf("p", 5, "n", "m")), c, 2, api.ErrNodeForm)
	isWrong(t, "a Low, then a form", tall().set(2, leaf("g", 3, "c")).set(4, leaf("p", 5, "n", "m")), c, 2, api.ErrShapeChain)
	isWrong(t, "a level, then no node", tall().with(4, func(n *api.Node) { n.Level = 1 }).set(5, leaf("z", 11)), c, 4, api.ErrShapeLevel)
	isWrong(t, "a form, then the chain back", tall().set(4, leaf("p", 5, "n", "m")).set(5, leaf("z", 1)), c, 4, api.ErrNodeForm)
	x := tree{3, []api.Node{leaf("", 0, "b", "a"), leaf("q", 1, "d", "c"), leaf("m", 2, "a")}}
	isWrong(t, "numbers that fall", x, c, 2, api.ErrNodeForm)
}

// Of levels: the higher one, chain and Kids, ahead of the lower one.
func TestOrderOfLevels(t *testing.T) {
	c := config()
	badLeaf := leaf("g", 3, "e", "d")
	noTree := inner(1, "", 0, texts("p"), 4, 9)
	noRoot := inner(2, "", 0, texts("n"), 6, 7)
	isWrong(t, "a root's form, a leaf's", tall().set(8, inner(2, "", 0, nil)).set(2, badLeaf), c, 8, api.ErrNodeForm)
	isWrong(t, "an inner Low, a leaf's form", tall().set(7, inner(1, "", 0, texts("l"), 4, 5)).set(2, badLeaf), c, 7, api.ErrShapeChain)
	isWrong(t, "a level above, a root's Kids", tall().set(7, inner(1, "", 0, nil)).set(8, noRoot), c, 7, api.ErrNodeForm)
	isWrong(t, "a root's Kids, a leaf's form", tall().set(8, noRoot).set(2, badLeaf), c, 8, api.ErrShapeChild)
	isWrong(t, "a root's Kids, Kids below", tall().set(8, noRoot).set(7, noTree), c, 8, api.ErrShapeChild)
	isWrong(t, "a leaf's form, Kids above", tall().set(2, badLeaf).set(7, noTree), c, 2, api.ErrNodeForm)
	isWrong(t, "the last leaf's form, Kids of the first node above", tall().set(5, leaf("", 0, "q", "p")).set(6, inner(1, "m", 7, texts("c", "g"), 1, 2, 3)), c, 5, api.ErrNodeForm)
	isWrong(t, "the chain of leaves back, Kids above", tall().set(5, leaf("z", 5, "p")).set(7, noTree), c, 5, api.ErrShapeChain)
}

// Of Kids: the first node of the level above that has a wrong one, in its chain's order.
func TestOrderOfKids(t *testing.T) {
	c := config()
	x := tall().set(6, inner(1, "m", 7, texts("d", "h"), 1, 2, 3))
	isWrong(t, "both nodes", x.set(7, inner(1, "", 0, texts("p"), 4, 9)), c, 6, api.ErrShapeChild)
	// The same levels, with the inner nodes' numbers the other way.
	x = tall().set(7, inner(1, "m", 6, texts("d", "h"), 1, 2, 3)).set(6, inner(1, "", 0, texts("p"), 4, 9))
	x = x.set(8, inner(2, "", 0, texts("m"), 7, 6))
	isWrong(t, "both nodes, numbers that fall", x, c, 7, api.ErrShapeChild)
}

// Latches ahead of all nodes; a configuration ahead of latches (TestConfigRefused).
func TestOrderOfLatches(t *testing.T) {
	for _, x := range []tree{
		tall().set(8, inner(2, "", 0, nil)),
		tall().set(5, leaf("z", 11)),
		tall().set(8, inner(2, "", 0, texts("n"), 6, 7)),
	} {
		a := x.lay(t, 12)
		hold(t, a, 9)
		if r, _, _ := look(t, a, config()); r != (api.Report{Node: 9, Err: api.ErrArenaLatch}) {
			t.Errorf("%+v", r)
		}
	}
}
