package descent_test

import (
	"fmt"
	"slices"
	"strings"
	"testing"

	"coppice/api"
	"coppice/arena"
	"coppice/descent"
)

// tree is what an arena is to have: the number of the root, and the nodes of the slots from 1 on.
type tree struct {
	root  int
	nodes []api.Node
}

func texts(l ...string) [][]byte {
	var out [][]byte
	for _, s := range l {
		out = append(out, []byte(s))
	}
	return out
}

// leaf is a leaf of some keys, each with a value of its own.
func leaf(high string, right int, keys ...string) api.Node {
	n := api.Node{Head: api.Head{High: []byte(high), Right: right}, Body: api.Body{Keys: texts(keys...)}}
	for _, k := range keys {
		n.Values = append(n.Values, []byte("value of "+k))
	}
	return n
}

func inner(level int, high string, right int, keys [][]byte, kids ...int) api.Node {
	return api.Node{Head: api.Head{Level: level, High: []byte(high), Right: right}, Body: api.Body{Keys: keys, Kids: kids}}
}

// small is the tree of the chapter's examples.
func small() tree {
	return tree{3, []api.Node{
		leaf("m", 2, "a"),
		leaf("", 0, "m", "z"),
		inner(1, "", 0, texts("m"), 1, 2),
	}}
}

// tall has three levels; 2 and 5 are nobody's children.
func tall() tree {
	return tree{8, []api.Node{
		leaf("d", 2, "b"),
		leaf("g", 3, "d", "e"),
		leaf("m", 4, "h"),
		leaf("p", 5, "m"),
		leaf("", 0, "p", "q"),
		inner(1, "m", 7, texts("g"), 1, 3),
		inner(1, "", 0, nil, 4),
		inner(2, "", 0, texts("m"), 6, 7),
	}}
}

// set is the tree in which a slot has another node.
func (x tree) set(id int, other api.Node) tree {
	x.nodes = slices.Clone(x.nodes)
	x.nodes[id-1] = other
	return x
}

// lay is a new arena of 40 slots that has the tree; no latch is held.
func (x tree) lay(t *testing.T) *arena.Arena {
	t.Helper()
	a := newArena(t)
	for i, n := range x.nodes {
		if i == 0 {
			hold(t, a, 1)
		} else {
			a.Alloc()
		}
		a.SetHead(i+1, n.Head)
		a.SetBody(i+1, n.Body)
		give(t, a, i+1, true)
	}
	grow(t, a, x.root)
	return a
}

func newArena(t *testing.T) *arena.Arena {
	t.Helper()
	a, err := arena.New(40)
	if err != api.OK {
		t.Fatalf("New: %d", err)
	}
	return a
}

// hold takes a latch, give gives it back.
func hold(t *testing.T, a *arena.Arena, id int) {
	t.Helper()
	word, _ := a.Word(id)
	if is, err := a.Lock(id, word); !is || err != api.OK {
		t.Fatalf("Lock(%d, %d): %v, %d", id, word, is, err)
	}
}

func give(t *testing.T, a *arena.Arena, id int, changed bool) {
	t.Helper()
	if err := a.Unlock(id, changed); err != api.OK {
		t.Fatalf("Unlock(%d): %d", id, err)
	}
}

// put makes a node another one, its latch being taken and given back.
func put(t *testing.T, a *arena.Arena, id int, n api.Node, changed bool) {
	t.Helper()
	hold(t, a, id)
	a.SetHead(id, n.Head)
	a.SetBody(id, n.Body)
	give(t, a, id, changed)
}

func grow(t *testing.T, a *arena.Arena, root int) {
	t.Helper()
	if is, err := a.Grow(a.Root(), root); !is || err != api.OK {
		t.Fatalf("Grow(%d): %v, %d", root, is, err)
	}
}

func read(a *arena.Arena, id int) api.Node {
	head, _ := a.Head(id)
	body, _ := a.Body(id)
	return api.Node{Head: head, Body: body}
}

// told is a node in words; a list that is nil is told as one that is empty.
func told(n api.Node) string {
	return fmt.Sprintf("level %d, High %q, Right %d, keys %q, values %q, kids %d", n.Level, n.High, n.Right, n.Keys, n.Values, n.Kids)
}

// state is all that an arena tells, in words.
func state(a *arena.Arena) string {
	var s strings.Builder
	fmt.Fprintf(&s, "used %d, left %d, root %d, held %d\n", a.Used(), a.Left(), a.Root(), a.Held())
	for id := 1; id <= a.Used(); id++ {
		word, _ := a.Word(id)
		fmt.Fprintf(&s, "%d: %d; %s\n", id, word, told(read(a, id)))
	}
	return s.String()
}

// toldAll is all that a machine tells, in words.
func toldAll(m *descent.Machine) string {
	id, word, n := m.At()
	return fmt.Sprintf("at %d, word %d, %s; again %d, right %d", id, word, told(n), m.Again(), m.Right())
}

// nowhere is what a machine tells that came to no node, or is not through.
func nowhere(again, right int) string {
	return fmt.Sprintf("at 0, word 0, %s; again %d, right %d", told(api.Node{}), again, right)
}

// walk is a machine on its way in an arena.
type walk struct {
	t *testing.T
	a *arena.Arena
	m *descent.Machine
}

func start(t *testing.T, a *arena.Arena, key string, level int) walk {
	t.Helper()
	was := state(a)
	w := walk{t, a, descent.New(a, []byte(key), level)}
	if got := toldAll(w.m); got != nowhere(0, 0) || state(a) != was {
		t.Fatalf("New: %s; %s\nfrom %s", got, state(a), was)
	}
	return w
}

// step does one step. It turns nothing (P12.3), and a machine that is not through is nowhere.
func (w walk) step() bool {
	w.t.Helper()
	was := state(w.a)
	through := w.m.Step()
	if now := state(w.a); now != was {
		w.t.Fatalf("a step turned %s\nto %s", was, now)
	}
	if got := toldAll(w.m); !through && got != nowhere(w.m.Again(), w.m.Right()) {
		w.t.Fatalf("on its way: %s", got)
	}
	return through
}

// on does so many steps, behind none of which the machine is through.
func (w walk) on(steps int) {
	w.t.Helper()
	for i := range steps {
		if w.step() {
			w.t.Fatalf("through behind %d steps: %s", i+1, toldAll(w.m))
		}
	}
}

// counts holds Again and Right against what they are to be.
func (w walk) counts(again, right int) {
	w.t.Helper()
	if w.m.Again() != again || w.m.Right() != right {
		w.t.Fatalf("again %d, right %d; not %d, %d", w.m.Again(), w.m.Right(), again, right)
	}
}

// comes does so many steps, behind the last of which the machine is through, at that node as it is now (0: at none).
func (w walk) comes(steps, id, again, right int) {
	w.t.Helper()
	w.on(steps - 1)
	if !w.step() {
		w.t.Fatalf("not through behind %d steps", steps)
	}
	want := nowhere(again, right)
	if id > 0 {
		word, _ := w.a.Word(id)
		want = fmt.Sprintf("at %d, word %d, %s; again %d, right %d", id, word, told(read(w.a, id)), again, right)
	}
	if got := toldAll(w.m); got != want {
		w.t.Fatalf("%s; not %s", got, want)
	}
	w.stays()
}

// stays steps a machine on that is through.
func (w walk) stays() {
	w.t.Helper()
	was := toldAll(w.m)
	for range 3 {
		if !w.step() || toldAll(w.m) != was {
			w.t.Fatalf("through: %s; then %s", was, toldAll(w.m))
		}
	}
}

// dice are numbers below a bound, the same ones at each run.
type dice uint64

func (d *dice) below(n int) int {
	x := uint64(*d)*6364136223846793005 + 1442695040888963407
	*d = dice(x)
	return int((x >> 33) % uint64(n))
}

// pick is one of some numbers.
func (d *dice) pick(l ...int) int { return l[d.below(len(l))] }

// key is a short one of a few kinds of bytes, so that keys are often near one another; now and then it is empty.
func (d *dice) key() []byte {
	b := make([]byte, d.pick(0, 1, 1, 1, 2, 2, 2, 2, 3, 3))
	for i := range b {
		b[i] = []byte{0, 'a', 'b', 'c', 128, 255}[d.below(6)]
	}
	return b
}
