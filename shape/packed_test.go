package shape_test

import (
	"testing"

	"coppice/api"
)

// row are so many full leaves from slot 1 on, and one of rest entries, which has no right brother; the keys are two letters each.
func row(full, fill, rest int) tree {
	key := func(leaf, i int) string { return string([]byte{'a' + byte(leaf), 'a' + byte(i)}) }
	x := tree{root: 1}
	for i := range full + 1 {
		count, high, right := fill, string([]byte{'a' + byte(i) + 1}), i+2
		if i == full {
			count, high, right = rest, "", 0
		}
		var keys []string
		for j := range count {
			keys = append(keys, key(i, j))
		}
		x.nodes = append(x.nodes, leaf(high, right, keys...))
	}
	return x
}

// under is a row with nodes above it, the last of which is the root.
func (x tree) under(above ...api.Node) tree {
	x.nodes = append(x.nodes, above...)
	return x.rooted(len(x.nodes))
}

// roomy is a configuration by which leaves may have more than a packed one.
func roomy() api.Config { return api.Config{Nodes: 20, Leaf: 4, Inner: 3, Fill: 2, Block: 4} }

// Packed trees of one, two and three levels; slots on no chain don't count.
func TestPacked(t *testing.T) {
	isPacked(t, "three levels", packed(), config(), true)
	isPacked(t, "a slot more", packed().under(leaf("", 0, "x")).rooted(9), config(), true)
	for rest := range 3 {
		isPacked(t, "one leaf", row(0, 2, rest), roomy(), true)
	}
	for rest := 1; rest <= 2; rest++ {
		isPacked(t, "two leaves", row(1, 2, rest).under(inner(1, "", 0, texts("b"), 1, 2)), roomy(), true)
		isPacked(t, "three leaves", row(2, 2, rest).under(inner(1, "", 0, texts("b", "c"), 1, 2, 3)), roomy(), true)
		four := row(3, 2, rest).under(inner(1, "d", 6, texts("b", "c"), 1, 2, 3), inner(1, "", 0, nil, 4), inner(2, "", 0, texts("d"), 5, 6))
		isPacked(t, "four leaves", four, roomy(), true)
	}
	full := roomy()
	full.Fill = 4
	isPacked(t, "Fill as Leaf", row(1, 4, 4).under(inner(1, "", 0, texts("b"), 1, 2)), full, true)
	one := roomy()
	one.Fill = 1
	isPacked(t, "Fill 1", row(2, 1, 1).under(inner(1, "", 0, texts("b", "c"), 1, 2, 3)), one, true)
}

// Check must say that it is sound: packed trees, but for one thing that is wrong.
func TestPackedMustBeSound(t *testing.T) {
	c := config()
	isWrong(t, "a root's key", packed().set(9, inner(2, "", 0, texts("h"), 7, 8)), c, 9, api.ErrShapeChild)
	isWrong(t, "a leaf's key below Low", packed().set(6, leaf("", 0, "j")), c, 6, api.ErrShapeChain)
	isWrong(t, "keys that fall", packed().set(2, leaf("e", 3, "d", "c")), c, 2, api.ErrNodeForm)
	a := packed().lay(t, 12)
	hold(t, a, 4)
	if _, _, is := look(t, a, c); is {
		t.Error("a held latch")
	}
	for _, c := range badConfigs() {
		if _, _, is := look(t, packed().lay(t, 12), c); is {
			t.Errorf("%+v", c)
		}
	}
	bad := config()
	bad.Block = 0
	if _, _, is := look(t, packed().lay(t, 12), bad); is {
		t.Error("Block 0")
	}
}

// Leaves but the last one have just Fill keys.
func TestPackedLeaves(t *testing.T) {
	three := row(2, 2, 1).under(inner(1, "", 0, texts("b", "c"), 1, 2, 3))
	isPacked(t, "as it must be", three, roomy(), true)
	isPacked(t, "the first with one less", three.set(1, leaf("b", 2, "aa")), roomy(), false)
	isPacked(t, "the first with one more", three.set(1, leaf("b", 2, "aa", "ab", "ac")), roomy(), false)
	isPacked(t, "the second with one less", three.set(2, leaf("c", 3, "ba")), roomy(), false)
	isPacked(t, "the second with none", three.set(2, leaf("c", 3)), roomy(), false)
	isPacked(t, "the second with as many as may be", three.set(2, leaf("c", 3, "ba", "bb", "bc", "bd")), roomy(), false)
	other := roomy()
	other.Fill = 1
	isPacked(t, "another Fill, less", three, other, false)
	other.Fill = 3
	isPacked(t, "another Fill, more", three, other, false)
	isPacked(t, "of three levels, one less", packed().set(5, leaf("k", 6, "i")), config(), false)
}

// The last leaf has Fill keys at most, and one at least, if it is not the only one.
func TestPackedLastLeaf(t *testing.T) {
	for rest := 3; rest <= 4; rest++ {
		isPacked(t, "the only leaf, too many", row(0, 2, rest), roomy(), false)
		isPacked(t, "the last leaf, too many", row(1, 2, rest).under(inner(1, "", 0, texts("b"), 1, 2)), roomy(), false)
	}
	isPacked(t, "the last leaf, none", row(1, 2, 0).under(inner(1, "", 0, texts("b"), 1, 2)), roomy(), false)
	isPacked(t, "of three levels, none", packed().set(6, leaf("", 0)), config(), false)
	isPacked(t, "of three levels, two", packed().set(6, leaf("", 0, "k", "l")), config(), true)
}

// Inner nodes but the last of each level have just Inner Kids.
func TestPackedInner(t *testing.T) {
	root := inner(2, "", 0, texts("c"), 5, 6)
	isPacked(t, "two and two", row(3, 2, 1).under(inner(1, "c", 6, texts("b"), 1, 2), inner(1, "", 0, texts("d"), 3, 4), root), roomy(), false)
	isPacked(t, "one and three", row(3, 2, 1).under(inner(1, "b", 6, nil, 1), inner(1, "", 0, texts("c", "d"), 2, 3, 4), inner(2, "", 0, texts("b"), 5, 6)), roomy(), false)
	wide := config()
	wide.Inner = 4
	isPacked(t, "another Inner", packed(), wide, false)
	isPacked(t, "a root of another Inner", row(2, 2, 1).under(inner(1, "", 0, texts("b", "c"), 1, 2, 3)), wide, true)

	// Eight leaves under three nodes; above these the root, or two nodes, of 2 Kids and of 1, and the root.
	above := []api.Node{
		inner(1, "d", 10, texts("b", "c"), 1, 2, 3),
		inner(1, "g", 11, texts("e", "f"), 4, 5, 6),
		inner(1, "", 0, texts("h"), 7, 8),
	}
	good := row(7, 2, 2).under(append(above, inner(2, "", 0, texts("d", "g"), 9, 10, 11))...)
	isPacked(t, "three below the root", good, roomy(), true)
	bad := row(7, 2, 2).under(append(above, inner(2, "g", 13, texts("d"), 9, 10), inner(2, "", 0, nil, 11), inner(3, "", 0, texts("g"), 12, 13))...)
	isPacked(t, "a middle level that is not full", bad, roomy(), false)
}

// The Kids of a level are as many as the nodes below: each is somebody's child.
func TestPackedKids(t *testing.T) {
	isPacked(t, "the last is no child", row(2, 2, 1).under(inner(1, "", 0, texts("b"), 1, 2)), roomy(), false)
	isPacked(t, "one between is none", row(2, 2, 1).under(inner(1, "", 0, texts("c"), 1, 3)), roomy(), false)
	isPacked(t, "of three levels, the last is none", packed().set(8, inner(1, "", 0, texts("i"), 4, 5)), config(), false)
	isPacked(t, "two of three levels are none", packed().set(8, inner(1, "", 0, nil, 4)), config(), false)

	// Three inner nodes, of which the root knows two.
	nine := row(8, 2, 2).under(
		inner(1, "d", 11, texts("b", "c"), 1, 2, 3),
		inner(1, "g", 12, texts("e", "f"), 4, 5, 6),
		inner(1, "", 0, texts("h", "i"), 7, 8, 9),
		inner(2, "", 0, texts("d", "g"), 10, 11, 12))
	isPacked(t, "all are children", nine, roomy(), true)
	isPacked(t, "an inner node is none", nine.set(13, inner(2, "", 0, texts("d"), 10, 11)), roomy(), false)
}

// The root stands alone, and has two Kids at least, if it is no leaf.
func TestPackedRoot(t *testing.T) {
	isPacked(t, "two leaves and no root above", row(1, 2, 2), roomy(), false)
	six := row(5, 2, 2).under(inner(1, "d", 8, texts("b", "c"), 1, 2, 3), inner(1, "", 0, texts("e", "f"), 4, 5, 6))
	isPacked(t, "two inner nodes and no root above", six.rooted(7), roomy(), false)
	isPacked(t, "a root above them", six.under(inner(2, "", 0, texts("d"), 7, 8)), roomy(), true)
	isPacked(t, "a root of one Kid, a leaf", row(0, 2, 2).under(inner(1, "", 0, nil, 1)), roomy(), false)
	isPacked(t, "a root of one Kid, an inner node", row(2, 2, 1).under(inner(1, "", 0, texts("b", "c"), 1, 2, 3), inner(2, "", 0, nil, 4)), roomy(), false)
}
