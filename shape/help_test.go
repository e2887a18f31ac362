package shape_test

import (
	"bytes"
	"fmt"
	"math"
	"slices"
	"strings"
	"testing"

	"coppice/api"
	"coppice/arena"
	"coppice/node"
	"coppice/shape"
)

// tree is what an arena is to have: the number of the root, and the nodes of the slots from 1 on.
type tree struct {
	root  int
	nodes []api.Node
}

func texts(l ...string) [][]byte {
	var out [][]byte
	for _, s := range l {
		out = append(out, []byte(s))
	}
	return out
}

// leaf is a leaf of some keys, each with a value of its own.
func leaf(high string, right int, keys ...string) api.Node {
	n := api.Node{Head: api.Head{High: []byte(high), Right: right}, Body: api.Body{Keys: texts(keys...)}}
	for _, k := range keys {
		n.Values = append(n.Values, []byte("value of "+k))
	}
	return n
}

func inner(level int, high string, right int, keys [][]byte, kids ...int) api.Node {
	return api.Node{Head: api.Head{Level: level, High: []byte(high), Right: right}, Body: api.Body{Keys: keys, Kids: kids}}
}

// config is one in which all trees of these tests have room.
func config() api.Config { return api.Config{Nodes: 12, Leaf: 2, Inner: 3, Fill: 2, Block: 4} }

// small is the tree of the chapter's examples.
func small() tree {
	return tree{3, []api.Node{
		leaf("m", 2, "a"),
		leaf("", 0, "m", "z"),
		inner(1, "", 0, texts("m"), 1, 2),
	}}
}

// tall has three levels; slot 9 is on no chain.
func tall() tree {
	return tree{8, []api.Node{
		leaf("d", 2, "b"),
		leaf("g", 3, "d", "e"),
		leaf("m", 4, "h"),
		leaf("p", 5, "m"),
		leaf("", 0, "p", "q"),
		inner(1, "m", 7, texts("d", "g"), 1, 2, 3),
		inner(1, "", 0, texts("p"), 4, 5),
		inner(2, "", 0, texts("m"), 6, 7),
		leaf("", 0, "x"),
	}}
}

// packed has five full leaves and one with a rest, under two nodes and a root, by config.
func packed() tree {
	return tree{9, []api.Node{
		leaf("c", 2, "a", "b"),
		leaf("e", 3, "c", "d"),
		leaf("g", 4, "e", "f"),
		leaf("i", 5, "g", "h"),
		leaf("k", 6, "i", "j"),
		leaf("", 0, "k"),
		inner(1, "g", 8, texts("c", "e"), 1, 2, 3),
		inner(1, "", 0, texts("i", "k"), 4, 5, 6),
		inner(2, "", 0, texts("g"), 7, 8),
	}}
}

func (x tree) clone() tree {
	out := tree{root: x.root}
	for _, n := range x.nodes {
		out.nodes = append(out.nodes, node.Clone(n))
	}
	return out
}

// with is the tree in which one node is turned.
func (x tree) with(id int, turn func(n *api.Node)) tree {
	out := x.clone()
	turn(&out.nodes[id-1])
	return out
}

// rooted is the tree with another root.
func (x tree) rooted(root int) tree {
	x.root = root
	return x
}

// set is the tree in which a slot has another node.
func (x tree) set(id int, other api.Node) tree {
	return x.with(id, func(n *api.Node) { *n = other })
}

// has: is this the number of a taken slot?
func (x tree) has(id int) bool { return id >= 1 && id <= len(x.nodes) }

// comeTo are the nodes that are come to from the root by Kids and Rights.
func (x tree) comeTo() []int {
	var out []int
	for work := []int{x.root}; len(work) > 0; {
		id := work[0]
		work = work[1:]
		if x.has(id) && !slices.Contains(out, id) {
			n := x.nodes[id-1]
			out = append(out, id)
			work = append(append(work, n.Kids...), n.Right)
		}
	}
	return out
}

// lay is a new arena of so many slots that has the tree; no latch is held.
func (x tree) lay(t *testing.T, slots int) *arena.Arena {
	t.Helper()
	a, err := arena.New(slots)
	if err != api.OK {
		t.Fatalf("New(%d): %d", slots, err)
	}
	for i, n := range x.nodes {
		id, word := i+1, uint64(0)
		if id > 1 {
			if got, err := a.Alloc(); got != id || err != api.OK {
				t.Fatalf("Alloc: %d, %d; not %d", got, err, id)
			}
		} else if is, _ := a.Lock(id, word); !is {
			t.Fatalf("slot %d is held", id)
		}
		for _, err := range []api.Errno{a.SetHead(id, n.Head), a.SetBody(id, n.Body), a.Unlock(id, true)} {
			if err != api.OK {
				t.Fatalf("slot %d: %d", id, err)
			}
		}
	}
	if is, err := a.Grow(1, x.root); !is || err != api.OK {
		t.Fatalf("Grow(1, %d): %v, %d", x.root, is, err)
	}
	return a
}

// hold takes latches.
func hold(t *testing.T, a *arena.Arena, ids ...int) {
	t.Helper()
	for _, id := range ids {
		word, _ := a.Word(id)
		if is, err := a.Lock(id, word); !is || err != api.OK {
			t.Fatalf("Lock(%d): %v, %d", id, is, err)
		}
	}
}

func told(n api.Node) string {
	return fmt.Sprintf("level %d, High %q, Right %d, keys %q, values %q, kids %d", n.Level, n.High, n.Right, n.Keys, n.Values, n.Kids)
}

func (x tree) String() string {
	s := fmt.Sprintf("root %d", x.root)
	for i, n := range x.nodes {
		s += fmt.Sprintf("\n%d: %s", i+1, told(n))
	}
	return s
}

// state is all that an arena tells, in words.
func state(a *arena.Arena) string {
	var s strings.Builder
	fmt.Fprintf(&s, "used %d, left %d, root %d, held %d\n", a.Used(), a.Left(), a.Root(), a.Held())
	for id := 1; id <= a.Used(); id++ {
		word, _ := a.Word(id)
		head, _ := a.Head(id)
		body, _ := a.Body(id)
		fmt.Fprintf(&s, "%d: %d; %s\n", id, word, told(api.Node{Head: head, Body: body}))
	}
	return s.String()
}

// look does all three calls twice: they answer twice the same (P3), and leave all as it was (P11.2).
func look(t *testing.T, a *arena.Arena, c api.Config) (api.Report, []api.Entry, bool) {
	t.Helper()
	was := state(a)
	r1, m1, p1 := shape.Check(a, c), shape.Map(a), shape.Packed(a, c)
	r2, m2, p2 := shape.Check(a, c), shape.Map(a), shape.Packed(a, c)
	if r1 != r2 || toldEntries(m1) != toldEntries(m2) || p1 != p2 {
		t.Fatalf("%v, %s, %v; then %v, %s, %v: %s", r1, toldEntries(m1), p1, r2, toldEntries(m2), p2, was)
	}
	if now := state(a); now != was {
		t.Fatalf("a look changed %s\nto %s", was, now)
	}
	return r1, m1, p1
}

func toldEntries(l []api.Entry) string {
	s := ""
	for _, e := range l {
		s += fmt.Sprintf("%q %q, ", e.Key, e.Value)
	}
	return s
}

// toldKeys are the keys of entries, a space between them.
func toldKeys(l []api.Entry) string {
	var keys []string
	for _, e := range l {
		keys = append(keys, string(e.Key))
	}
	return strings.Join(keys, " ")
}

// isSound and isWrong hold Check of a tree against what it is to tell, all fields of it.
func isSound(t *testing.T, what string, x tree, c api.Config, levels, nodes, entries int) {
	t.Helper()
	want := api.Report{Sound: true, Levels: levels, Nodes: nodes, Entries: entries}
	if got, _, _ := look(t, x.lay(t, 20), c); got != want {
		t.Errorf("%s: %+v; not %+v", what, got, want)
	}
}

func isWrong(t *testing.T, what string, x tree, c api.Config, id int, err api.Errno) {
	t.Helper()
	want := api.Report{Node: id, Err: err}
	got, _, is := look(t, x.lay(t, 20), c)
	if got != want {
		t.Errorf("%s: %+v; not %+v", what, got, want)
	}
	if is {
		t.Errorf("%s: Packed", what)
	}
}

// isMap holds Map of a tree against the keys that it is to tell; each has leaf's value.
func isMap(t *testing.T, what string, x tree, keys string) {
	t.Helper()
	_, l, _ := look(t, x.lay(t, 20), config())
	if got := toldKeys(l); got != keys {
		t.Errorf("%s: %s; not %s", what, got, keys)
	}
	for _, e := range l {
		if string(e.Value) != "value of "+string(e.Key) {
			t.Errorf("%s: %q has %q", what, e.Key, e.Value)
		}
	}
}

// isPacked holds Packed of a sound tree against what it is to answer.
func isPacked(t *testing.T, what string, x tree, c api.Config, want bool) {
	t.Helper()
	r, _, is := look(t, x.lay(t, 20), c)
	if !r.Sound {
		t.Errorf("%s: %+v", what, r)
	}
	if is != want {
		t.Errorf("%s: Packed is %v", what, is)
	}
}

// dice are numbers below a bound, the same ones at each run.
type dice uint64

func (d *dice) below(n int) int {
	x := uint64(*d)*6364136223846793005 + 1442695040888963407
	*d = dice(x)
	return int((x >> 33) % uint64(n))
}

// pick is one of some numbers.
func (d *dice) pick(l ...int) int { return l[d.below(len(l))] }

// key is a short one of a few kinds of bytes, so that keys are often near one another.
func (d *dice) key() []byte {
	b := make([]byte, d.pick(1, 1, 2, 2, 3))
	for i := range b {
		b[i] = []byte{0, 'a', 'b', 'c', 128, 255}[d.below(6)]
	}
	return b
}

// keys are so many that rise.
func (d *dice) keys(count int) [][]byte {
	var l [][]byte
	for len(l) < count {
		k := d.key()
		if at, is := slices.BinarySearchFunc(l, k, bytes.Compare); !is {
			l = slices.Insert(l, at, k)
		}
	}
	return l
}

// shuffled are the numbers from 1 on, as many, in any order.
func (d *dice) shuffled(count int) []int {
	l := make([]int, count)
	for i := range l {
		l[i] = i + 1
	}
	for i := range l {
		j := i + d.below(count-i)
		l[i], l[j] = l[j], l[i]
	}
	return l
}

// config is one that may be, of so many nodes.
func (d *dice) config(nodes int) api.Config {
	leaf := 2 + d.below(4)
	return api.Config{Nodes: nodes, Leaf: leaf, Inner: 3 + d.below(3), Fill: 1 + d.below(leaf), Block: 1 + d.below(64)}
}

// member is a node of a level while a tree is grown from below.
type member struct {
	id  int
	low []byte
}

// sound is a sound tree of at most so many leaves and of so many levels, by c. Nodes that are nobody's children, leaves without entries, roots with right brothers and slots on no chain are among them; with full, none of these: it is packed, but for its number of levels.
func (d *dice) sound(c api.Config, leaves int, levels int, full bool) tree {
	x := tree{nodes: make([]api.Node, c.Nodes-d.below(3))}
	ids := d.shuffled(len(x.nodes))
	next := func() int { ids = ids[1:]; return ids[0] }
	for i := range x.nodes {
		x.nodes[i] = leaf("", 0, "junk")
	}
	chain := d.leaves(x, c, leaves, full, next)
	for level := 1; level < levels; level++ {
		chain = d.above(x, c, level, chain, full, next)
	}
	x.root = chain[0].id
	return x
}

// link ties the nodes of a level to one another.
func link(x tree, chain []member) {
	for i, m := range chain[1:] {
		ahead := &x.nodes[chain[i].id-1]
		ahead.High, ahead.Right = m.low, m.id
	}
}

func (d *dice) leaves(x tree, c api.Config, most int, full bool, next func() int) []member {
	var chain []member
	keys := d.keys(1 + d.below(most*c.Fill))
	for len(keys) > 0 && len(chain) < most {
		count := min(c.Fill, len(keys))
		if !full {
			count = min(1+d.below(c.Leaf), len(keys))
		}
		m := member{id: next()}
		if len(chain) > 0 {
			m.low = keys[0]
		}
		n := api.Node{}
		for _, k := range keys[:count] {
			if full || d.below(5) > 0 {
				n.Keys, n.Values = append(n.Keys, k), append(n.Values, append([]byte("v"), k...))
			}
		}
		x.nodes[m.id-1] = n
		chain, keys = append(chain, m), keys[count:]
	}
	link(x, chain)
	return chain
}

// above lays a level above a chain.
func (d *dice) above(x tree, c api.Config, level int, chain []member, full bool, next func() int) []member {
	var up []member
	for len(chain) > 0 {
		count := min(c.Inner, len(chain))
		if !full {
			count = min(1+d.below(c.Inner+1), len(chain))
		}
		n := api.Node{Head: api.Head{Level: level}}
		for i, m := range chain[:count] {
			if i > 0 && !full && (d.below(4) == 0 || len(n.Kids) == c.Inner) {
				continue
			}
			if i > 0 {
				n.Keys = append(n.Keys, m.low)
			}
			n.Kids = append(n.Kids, m.id)
		}
		m := member{next(), chain[0].low}
		x.nodes[m.id-1] = n
		up, chain = append(up, m), chain[count:]
	}
	link(x, up)
	return up
}

// turned is a tree of which one thing is another one, most often of a node that is come to.
func (d *dice) turned(x tree, c api.Config) tree {
	used := len(x.nodes)
	number := d.pick(1+d.below(used), 1+d.below(used), 1+d.below(used), x.root, 0, used+1, used+1, c.Nodes, c.Nodes+1, -1, math.MinInt, math.MaxInt)
	if d.below(12) == 0 {
		return x.rooted(1 + d.below(used))
	}
	near := x.comeTo()
	id := d.pick(near[d.below(len(near))], near[d.below(len(near))], near[d.below(len(near))], 1+d.below(used))
	return x.with(id, func(n *api.Node) {
		switch d.below(11) {
		case 0:
			n.Level += d.pick(1, -1, 2, math.MinInt, math.MaxInt)
		case 1:
			n.High = d.key()
		case 2:
			n.Right = number
		case 3:
			n.High, n.Right = d.key(), number
		case 4:
			n.High, n.Right = nil, 0
		case 5:
			if len(n.Keys) > 0 {
				n.Keys[d.below(len(n.Keys))] = d.key()
			}
		case 6:
			if len(n.Kids) > 0 {
				n.Kids[d.below(len(n.Kids))] = number
			}
		case 7:
			n.Keys = append(n.Keys, d.key())
			slices.SortFunc(n.Keys, bytes.Compare)
			n.Values = append(n.Values, []byte("more"))
		case 8:
			n.Keys = n.Keys[:d.below(len(n.Keys)+1)]
			n.Values = n.Values[:min(len(n.Values), len(n.Keys))]
			n.Kids = n.Kids[:min(len(n.Kids), len(n.Keys)+1)]
		case 9:
			n.Values = n.Values[:d.below(len(n.Values)+1)]
		case 10:
			n.Kids = n.Kids[:d.below(len(n.Kids)+1)]
		}
	})
}

// any is a tree of nodes of any form, whose numbers often lead to one another.
func (d *dice) any(nodes int) tree {
	x := tree{root: 1 + d.below(nodes)}
	number := func() int { return d.pick(0, d.below(nodes+2), d.below(nodes+2), -1, math.MinInt, math.MaxInt) }
	for range nodes {
		n := api.Node{Head: api.Head{Level: d.pick(0, 0, 0, 1, 1, 2, -1, 32, 33, math.MinInt, math.MaxInt), Right: number()}}
		if n.Right != 0 || d.below(9) == 0 {
			n.High = d.key()
		}
		if n.Level > 0 {
			n.Kids = []int{number()}
		}
		for _, k := range d.keys(d.below(4)) {
			n.Keys = append(n.Keys, k)
			if n.Level > 0 {
				n.Kids = append(n.Kids, number())
			} else if d.below(9) > 0 {
				n.Values = append(n.Values, d.key())
			}
		}
		if d.below(9) == 0 {
			n.Keys = append(n.Keys, make([]byte, d.pick(0, 64, 65)))
		}
		if d.below(9) == 0 {
			n.Kids, n.Values = nil, append(n.Values, make([]byte, 257))
		}
		x.nodes = append(x.nodes, n)
	}
	return x
}

// cell is a piece of memory, its spare room too: how it is now, and a way to write over it, and back.
type cell interface {
	state() string
	turn()
}

type textCell []byte

func (c textCell) state() string { return string(c[:cap(c)]) }
func (c textCell) turn() {
	c = c[:cap(c)]
	for i := range c {
		c[i] ^= 0x5a
	}
}

// listCell is the memory of a list of entries alone: its state tells where its texts lie, not what they say.
type listCell struct{ now, other []api.Entry }

func (c *listCell) state() string {
	s := ""
	for _, e := range c.now {
		s += fmt.Sprintf("%p %d %p %d, ", e.Key, len(e.Key), e.Value, len(e.Value))
	}
	return s
}

func (c *listCell) turn() {
	for i := range c.now {
		c.now[i], c.other[i] = c.other[i], c.now[i]
	}
}

// cells are the memory of entries, piece by piece.
func cells(l []api.Entry) []cell {
	all := []cell{&listCell{l[:cap(l)], make([]api.Entry, cap(l))}}
	for _, e := range l {
		all = append(all, textCell(e.Key), textCell(e.Value))
	}
	return all
}

func states(l []cell) []string {
	var out []string
	for _, c := range l {
		out = append(out, c.state())
	}
	return out
}

// apart: does none of some pieces of memory lie in another one?
func apart(l []cell) bool {
	was := states(l)
	for i, c := range l {
		c.turn()
		now := states(l)
		now[i] = was[i]
		c.turn()
		if !slices.Equal(now, was) {
			return false
		}
	}
	return true
}
