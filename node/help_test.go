package node_test

import (
	"bytes"
	"fmt"
	"math"
	"slices"
	"testing"

	"coppice/api"
	"coppice/node"
)

// dice are numbers below a bound, the same ones at each run.
type dice uint64

func (d *dice) below(n int) int {
	x := uint64(*d)*6364136223846793005 + 1442695040888963407
	*d = dice(x)
	return int((x >> 33) % uint64(n))
}

// pick is one of some numbers.
func (d *dice) pick(l ...int) int { return l[d.below(len(l))] }

// text are so many bytes of a few kinds, so that texts often have much in common.
func (d *dice) text(size int) []byte {
	b := make([]byte, size)
	for i := range b {
		b[i] = []byte{0, 'a', 'a', 'b', 127, 128, 255}[d.below(7)]
	}
	return b
}

// key is one that may be, seldom a long one.
func (d *dice) key() []byte { return d.text(d.pick(1, 1, 2, 2, 3, 4, 63, 64)) }

// keys are so many that rise; the first one is empty now and then, if that is asked for.
func (d *dice) keys(count int, empty bool) [][]byte {
	var l [][]byte
	for len(l) < count {
		k := d.key()
		if empty && d.below(count+2) == 0 {
			k = nil
		}
		if at, is := slices.BinarySearchFunc(l, k, bytes.Compare); !is {
			l = slices.Insert(l, at, k)
		}
	}
	return l
}

// values are so many that may be.
func (d *dice) values(count int) [][]byte {
	l := make([][]byte, count)
	for i := range l {
		l[i] = d.text(d.pick(0, 1, 2, 255, 256))
	}
	return l
}

// kids are so many nodes of an arena, no two alike.
func (d *dice) kids(count, nodes int) []int {
	var l []int
	for len(l) < count {
		if kid := 1 + d.below(nodes); !slices.Contains(l, kid) {
			l = append(l, kid)
		}
	}
	return l
}

// right is a right node with so many keys.
func (d *dice) right(level, count int) api.Node {
	n := api.Node{Head: api.Head{Level: level, High: d.text(d.below(3)), Right: d.below(9)}, Body: api.Body{Keys: d.keys(count, true)}}
	if level == 0 {
		n.Values = d.values(count)
	} else {
		n.Kids = d.kids(count+1, 1000)
	}
	return n
}

// config is one that may be.
func (d *dice) config() api.Config {
	leaf := 2 + d.below(8)
	return api.Config{Nodes: 50 + d.below(50), Leaf: leaf, Inner: 3 + d.below(8), Fill: 1 + d.below(leaf), Block: 1 + d.below(64)}
}

// mayBe is a node that may be.
func (d *dice) mayBe(c api.Config) api.Node {
	n := api.Node{Head: api.Head{Level: d.pick(0, 0, 0, 1, 1, 2, 31, 32)}}
	var keys [][]byte
	if n.Level == 0 {
		keys = d.keys(d.below(c.Leaf+1)+1, false)
		n.Values = d.values(len(keys) - 1)
	} else {
		keys = d.keys(d.below(c.Inner)+1, false)
		n.Kids = d.kids(len(keys), c.Nodes)
	}
	n.Keys = keys[:len(keys)-1]
	if d.below(2) == 0 {
		n.High, n.Right = keys[len(keys)-1], 1+d.below(c.Nodes)
	}
	return n
}

// any is a node of any form.
func (d *dice) any() api.Node {
	n := api.Node{Head: api.Head{Level: d.pick(0, 0, 0, 1, 1, -1, 33, math.MinInt, math.MaxInt), High: d.text(d.pick(0, 1, 70)), Right: d.pick(0, 1, -1, math.MinInt, math.MaxInt)}}
	for range d.below(6) {
		n.Keys = append(n.Keys, d.text(d.pick(0, 1, 1, 1, 2, 64, 65)))
	}
	for range d.below(6) {
		n.Values = append(n.Values, d.text(d.pick(0, 1, 256, 257)))
	}
	for range d.below(6) {
		n.Kids = append(n.Kids, d.pick(0, 1, 2, 3, 4, 5, -1, math.MinInt, math.MaxInt))
	}
	return n
}

// config is a configuration that may be.
func config() api.Config { return api.Config{Nodes: 9, Leaf: 4, Inner: 5, Fill: 2, Block: 4} }

func texts(l ...string) [][]byte {
	var out [][]byte
	for _, s := range l {
		out = append(out, []byte(s))
	}
	return out
}

// leaf is a leaf of some keys, each with a value of its own.
func leaf(high string, right int, keys ...string) api.Node {
	n := api.Node{Head: api.Head{High: []byte(high), Right: right}, Body: api.Body{Keys: texts(keys...)}}
	for _, k := range keys {
		n.Values = append(n.Values, []byte("value of "+k))
	}
	return n
}

// entries is a leaf without a High, of keys and values that stand by turns.
func entries(l ...string) api.Node {
	var n api.Node
	for i := 0; i < len(l); i += 2 {
		n.Keys, n.Values = append(n.Keys, []byte(l[i])), append(n.Values, []byte(l[i+1]))
	}
	return n
}

// inner is a node of level 1 without a High.
func inner(keys [][]byte, kids ...int) api.Node {
	return api.Node{Head: api.Head{Level: 1}, Body: api.Body{Keys: keys, Kids: kids}}
}

// bounded is a node with another High and Right.
func bounded(n api.Node, high string, right int) api.Node {
	n.High, n.Right = []byte(high), right
	return n
}

func sameTexts(x, y [][]byte) bool { return slices.EqualFunc(x, y, bytes.Equal) }

// same: is one node as another one? A list that is nil is as one that is empty.
func same(x, y api.Node) bool {
	return x.Level == y.Level && bytes.Equal(x.High, y.High) && x.Right == y.Right &&
		sameTexts(x.Keys, y.Keys) && sameTexts(x.Values, y.Values) && slices.Equal(x.Kids, y.Kids)
}

// told is a node in words.
func told(n api.Node) string {
	return fmt.Sprintf("{level %d, High %q, Right %d, keys %q, values %q, kids %d}", n.Level, n.High, n.Right, n.Keys, n.Values, n.Kids)
}

// isZero: is a node a zero one?
func isZero(n api.Node) bool { return same(n, api.Node{}) }

// less: the order of keys by the chapter's words.
func less(a, b []byte) bool {
	for i := range b {
		if i == len(a) {
			return true
		}
		if a[i] != b[i] {
			return a[i] < b[i]
		}
	}
	return false
}

// near are keys at, ahead of, behind and between those of a node, and such as may not be.
func near(n api.Node) [][]byte {
	keys := [][]byte{nil, {}, {0}, {'a'}, {128}, {255}, bytes.Repeat([]byte{255}, 64), make([]byte, 65), bytes.Repeat([]byte{255}, 300)}
	for _, k := range append(slices.Clone(n.Keys), n.High) {
		keys = append(keys, bytes.Clone(k), append(bytes.Clone(k), 0), append(bytes.Clone(k), 255))
		if last := len(k) - 1; last >= 0 {
			lower, higher := bytes.Clone(k), bytes.Clone(k)
			lower[last]--
			higher[last]++
			keys = append(keys, k[:last], lower, higher)
		}
	}
	return keys
}

// mayBe tells by the chapter's words whether a node may be, c being a configuration that may be.
func mayBe(n api.Node, c api.Config) bool {
	ok := n.Level >= 0 && n.Level <= 32 && n.Right >= 0 && n.Right <= c.Nodes && len(n.High) <= 64
	ok = ok && (len(n.High) > 0 && n.Right != 0 || len(n.High) == 0 && n.Right == 0)
	for i, k := range n.Keys {
		ok = ok && len(k) > 0 && len(k) <= 64
		ok = ok && (i == 0 || less(n.Keys[i-1], k)) && (len(n.High) == 0 || less(k, n.High))
	}
	for _, v := range n.Values {
		ok = ok && len(v) <= 256
	}
	alike := map[int]int{}
	for _, kid := range n.Kids {
		alike[kid]++
		ok = ok && kid >= 1 && kid <= c.Nodes && alike[kid] == 1
	}
	if n.Level == 0 {
		return ok && len(n.Values) == len(n.Keys) && len(n.Keys) <= c.Leaf && len(n.Kids) == 0
	}
	return ok && len(n.Values) == 0 && len(n.Kids) == len(n.Keys)+1 && len(n.Kids) <= c.Inner
}

// goodCheck and badCheck hold Check of a node against OK and ErrNodeForm.
func goodCheck(t *testing.T, what string, n api.Node, c api.Config) {
	t.Helper()
	if err := node.Check(n, c); err != api.OK {
		t.Errorf("%s: Check of %s in %v: %d", what, told(n), c, err)
	}
}

func badCheck(t *testing.T, what string, n api.Node, c api.Config) {
	t.Helper()
	if err := node.Check(n, c); err != api.ErrNodeForm {
		t.Errorf("%s: Check of %s in %v: %d", what, told(n), c, err)
	}
}

// cell is a piece of memory, its spare room too: how it is now, and a way to write over it, and back.
type cell interface {
	state() string
	turn()
}

type textCell []byte

func (c textCell) state() string { return string(c[:cap(c)]) }
func (c textCell) turn() {
	c = c[:cap(c)]
	for i := range c {
		c[i] ^= 0x5a
	}
}

type kidsCell []int

func (c kidsCell) state() string { return fmt.Sprint([]int(c[:cap(c)])) }
func (c kidsCell) turn() {
	c = c[:cap(c)]
	for i := range c {
		c[i] ^= 0x5a
	}
}

// rowsCell is the memory of a list of texts alone: its state tells where its texts lie, not what they say.
type rowsCell struct{ now, other [][]byte }

func newRowsCell(l [][]byte) *rowsCell {
	return &rowsCell{l[:cap(l)], make([][]byte, cap(l))}
}

func (c *rowsCell) state() string {
	s := ""
	for _, text := range c.now {
		s += fmt.Sprintf("%p %d, ", text, len(text))
	}
	return s
}

func (c *rowsCell) turn() {
	for i := range c.now {
		c.now[i], c.other[i] = c.other[i], c.now[i]
	}
}

// cells are a node's memory, piece by piece.
func cells(n api.Node) []cell {
	l := []cell{textCell(n.High), newRowsCell(n.Keys), newRowsCell(n.Values), kidsCell(n.Kids)}
	for _, text := range slices.Concat(n.Keys, n.Values) {
		l = append(l, textCell(text))
	}
	return l
}

func states(l []cell) []string {
	var out []string
	for _, c := range l {
		out = append(out, c.state())
	}
	return out
}

// apart: does none of some pieces of memory lie in another one?
func apart(l []cell) bool {
	was := states(l)
	for i, c := range l {
		c.turn()
		now := states(l)
		now[i] = was[i]
		c.turn()
		if !slices.Equal(now, was) {
			return false
		}
	}
	return true
}

// roomy is a text with spare room that is written full.
func roomy(b []byte) []byte {
	return append(slices.Clone(b), bytes.Repeat([]byte{0x77}, 5)...)[:len(b)]
}

func roomyTexts(l [][]byte) [][]byte {
	var out [][]byte
	for _, text := range l {
		out = append(out, roomy(text))
	}
	return append(out, texts("spare", "room", "of", "texts")...)[:len(l)]
}

// roomyNode is a node in memory of its own, all of whose lists have spare room that is written full.
func roomyNode(n api.Node) api.Node {
	kids := append(slices.Clone(n.Kids), 71, 72, 73, 74)[:len(n.Kids)]
	return api.Node{
		Head: api.Head{Level: n.Level, High: roomy(n.High), Right: n.Right},
		Body: api.Body{Keys: roomyTexts(n.Keys), Values: roomyTexts(n.Values), Kids: kids},
	}
}
