package descent_test

import (
	"bytes"
	"fmt"
	"math"
	"slices"
	"testing"

	"coppice/api"
	"coppice/arena"
	"coppice/descent"
	"coppice/node"
	"coppice/shape"
)

// writer turns a live tree by steps of one call each, holding one latch of the tree at a time: keys come and go, nodes are split, halves are told to the level above, roots are grown. Now and then a half is told to nobody.
type writer struct {
	a    *arena.Arena
	c    api.Config
	d    *dice
	next []func()
}

func newWriter(a *arena.Arena, c api.Config, d *dice) *writer { return &writer{a: a, c: c, d: d} }

// step does the next step, or begins with another key.
func (w *writer) step() {
	if len(w.next) == 0 {
		key := append([]byte{byte('a' + w.d.below(9))}, w.d.key()...)
		w.then(func() { w.seek(0, key, 0, 0) })
	}
	do := w.next[0]
	w.next = w.next[1:]
	do()
}

func (w *writer) then(steps ...func()) { w.next = append(w.next, steps...) }

// finish does what is left of a key.
func (w *writer) finish() {
	for len(w.next) > 0 {
		w.step()
	}
}

// seek takes the latch of a key's node of a level, or waits for it.
func (w *writer) seek(level int, key []byte, left, right int) {
	id := place(w.a, level, key)
	if id == 0 {
		w.top(level, key, left, right)
		return
	}
	word, _ := w.a.Word(id)
	if is, _ := w.a.Lock(id, word); !is {
		w.then(func() { w.seek(level, key, left, right) })
		return
	}
	n := read(w.a, id)
	if level > 0 {
		n, _ = node.Joined(n, key, right)
	} else if w.d.below(4) == 0 {
		n, _ = node.Without(n, key)
	} else {
		n = node.With(n, key, w.d.key())
	}
	w.change(id, n)
}

// change lays a node whose latch is held, in two halves if it is over.
func (w *writer) change(id int, n api.Node) {
	free := func() { w.a.Unlock(id, true) }
	if !node.Over(n, w.c) {
		w.then(func() { w.a.SetBody(id, n.Body) }, free)
		return
	}
	w.then(func() {
		half, err := w.a.Alloc()
		if err != api.OK {
			w.then(free)
			return
		}
		left, right, between := node.Split(n, half)
		w.then(
			func() { w.a.SetHead(half, right.Head) },
			func() { w.a.SetBody(half, right.Body) },
			func() { w.a.Unlock(half, true) },
			func() { w.a.SetHead(id, left.Head) },
			func() { w.a.SetBody(id, left.Body) },
			free)
		if w.d.below(4) > 0 {
			w.then(func() { w.seek(n.Level+1, between, id, half) })
		}
	})
}

// top grows a root above two halves, if the left one is the root.
func (w *writer) top(level int, key []byte, left, right int) {
	if w.a.Root() != left || w.a.Left() == 0 {
		return
	}
	id, _ := w.a.Alloc()
	w.then(
		func() { w.a.SetHead(id, api.Head{Level: level}) },
		func() { w.a.SetBody(id, api.Body{Keys: [][]byte{key}, Kids: []int{left, right}}) },
		func() { w.a.Unlock(id, true) },
		func() { w.a.Grow(left, id) })
}

// place is the number of the node of a level in which a key belongs, as the tree stands; 0: there is no such level.
func place(a *arena.Arena, level int, key []byte) int {
	id := a.Root()
	for {
		n := read(a, id)
		switch {
		case n.Level < level:
			return 0
		case node.Beyond(n, key):
			id = n.Right
		case n.Level == level:
			return id
		default:
			id = node.Child(n, key)
		}
	}
}

// low is the key below which a node of a level has none, by the chain of that level: the High of the one ahead of it.
func low(t *testing.T, a *arena.Arena, level, id int) []byte {
	t.Helper()
	at := a.Root()
	for n := read(a, at); n.Level > level; n = read(a, at) {
		at = n.Kids[0]
	}
	var high []byte
	for at != id {
		n := read(a, at)
		if n.Right == 0 {
			t.Fatalf("%d is not in the chain of level %d: %s", id, level, state(a))
		}
		high, at = n.High, n.Right
	}
	return high
}

// belongs: is this node, which a machine came to, the one of the level in which the key belongs?
func belongs(t *testing.T, a *arena.Arena, key []byte, level, id int) {
	t.Helper()
	n := read(a, id)
	if n.Level != level || node.Beyond(n, key) || bytes.Compare(key, low(t, a, level, id)) < 0 {
		t.Fatalf("%q, level %d: came to %d: %s", key, level, id, state(a))
	}
}

// wasSo holds what a machine tells at its last step against the arena (P12.1).
func wasSo(t *testing.T, a *arena.Arena, key []byte, m *descent.Machine) {
	t.Helper()
	id, word, n := m.At()
	if id == 0 {
		return
	}
	now, _ := a.Word(id)
	if now%2 == 1 || now != word || told(n) != told(read(a, id)) || node.Beyond(n, key) {
		t.Fatalf("%q: %s; it is %d: %s", key, toldAll(m), now, told(read(a, id)))
	}
}

// sound is a sound tree that a writer grew, alone.
func (d *dice) sound(t *testing.T) (*arena.Arena, api.Report) {
	t.Helper()
	c := api.Config{Nodes: 40, Leaf: 2 + d.below(3), Inner: 3 + d.below(2), Fill: 2, Block: 4}
	a := newArena(t)
	w := newWriter(a, c, d)
	for range d.below(80) {
		w.step()
		w.finish()
	}
	r := shape.Check(a, c)
	if !r.Sound {
		t.Fatalf("%+v: %s", r, state(a))
	}
	return a, r
}

// P12.2: alone in a sound tree a machine is through in time, never begins anew, and comes to the node in which the key belongs, of each level that there is.
func TestAlone(t *testing.T) {
	levels, rights, most := map[int]int{}, 0, 0
	for seed := range 400 {
		d := dice(seed)
		a, r := d.sound(t)
		was := state(a)
		levels[r.Levels]++
		for range 12 {
			key, level := append([]byte{byte('a' + d.below(9))}, d.key()...)[d.below(2):], d.below(r.Levels+1)
			m := descent.New(a, key, level)
			steps := 1
			for ; !m.Step(); steps++ {
				if steps > 1+4*r.Nodes {
					t.Fatalf("%q, level %d: not through behind %d steps: %s", key, level, steps, was)
				}
			}
			if steps > 1+4*r.Nodes || m.Again() != 0 {
				t.Fatalf("%q, level %d: %d steps, again %d: %s", key, level, steps, m.Again(), was)
			}
			wasSo(t, a, key, m)
			id, _, _ := m.At()
			if level < r.Levels {
				belongs(t, a, key, level, id)
				rights += m.Right()
			} else if id != 0 || steps != 5 {
				t.Fatalf("%q, level %d: %d steps, to %d: %s", key, level, steps, id, was)
			}
			most = max(most, steps)
		}
		if state(a) != was {
			t.Fatalf("turned: %s\nfrom %s", state(a), was)
		}
	}
	if len(levels) < 4 || rights < 500 || most < 40 {
		t.Errorf("levels %v, %d to the right, %d steps at most", levels, rights, most)
	}
}

// P12.2: its bound is just met where the way leads through all nodes; each entry of a sound tree is come to.
func TestAloneAtTheBound(t *testing.T) {
	for _, leaves := range []int{1, 2, 3, 8, 30} {
		x := tree{root: leaves + 1}
		for i := range leaves - 1 {
			x.nodes = append(x.nodes, leaf(fmt.Sprintf("%02d", i+1), i+2, fmt.Sprintf("%02d", i)))
		}
		x.nodes = append(x.nodes, leaf("", 0, fmt.Sprintf("%02d", leaves-1)), inner(1, "", 0, nil, 1))
		a := x.lay(t)
		if r := shape.Check(a, api.Config{Nodes: 40, Leaf: 2, Inner: 3, Fill: 2, Block: 4}); !r.Sound || r.Nodes != leaves+1 {
			t.Fatalf("%+v", r)
		}
		start(t, a, "z", 0).comes(1+4*(leaves+1), leaves, 0, leaves-1)
		for i := range leaves {
			start(t, a, fmt.Sprintf("%02d", i), 0).comes(1+4*(i+2), i+1, 0, i)
		}
	}
}

// traveller is a machine and what it seeks.
type traveller struct {
	m     *descent.Machine
	key   []byte
	level int
}

// P12.1, P12.3: many machines in turns, while writers turn a sound tree: at its last step each node was just as it is told, and the key belonged there. Where the writers stop, all come through.
func TestManyInTurns(t *testing.T) {
	came, again, right, levels := 0, 0, 0, map[int]int{}
	for seed := range 150 {
		d := dice(seed)
		c := api.Config{Nodes: 40, Leaf: 2 + d.below(2), Inner: 3, Fill: 2, Block: 4}
		a := newArena(t)
		var writers []*writer
		for range 1 + d.below(3) {
			writers = append(writers, newWriter(a, c, &d))
		}
		end := func(x traveller) {
			wasSo(t, a, x.key, x.m)
			if id, _, _ := x.m.At(); id > 0 {
				belongs(t, a, x.key, x.level, id)
				came++
				levels[x.level]++
			}
			again, right = again+x.m.Again(), right+x.m.Right()
		}
		all := make([]traveller, 1+d.below(5))
		for i := range all {
			all[i] = d.traveller(a)
		}
		for range 700 {
			if d.below(3) == 0 {
				writers[d.below(len(writers))].step()
				continue
			}
			i, was := d.below(len(all)), state(a)
			if all[i].m.Step() {
				end(all[i])
				all[i] = d.traveller(a)
			}
			if now := state(a); now != was {
				t.Fatalf("a step turned %s\nto %s", was, now)
			}
		}
		settle(t, a, c, writers)
		for _, x := range all {
			for steps := 0; !x.m.Step(); steps++ {
				if steps > 4+1+4*a.Used() {
					t.Fatalf("%q, level %d: not through: %s", x.key, x.level, state(a))
				}
			}
			end(x)
		}
	}
	if came < 2000 || again < 100 || right < 500 || len(levels) < 3 {
		t.Errorf("%d came to a node, again %d, right %d, levels %v", came, again, right, levels)
	}
}

func (d *dice) traveller(a *arena.Arena) traveller {
	key, level := append([]byte{byte('a' + d.below(9))}, d.key()...), d.pick(0, 0, 0, 1, 1, 2)
	return traveller{descent.New(a, key, level), key, level}
}

// settle lets writers end what they do, in turns: the tree is sound then.
func settle(t *testing.T, a *arena.Arena, c api.Config, writers []*writer) {
	t.Helper()
	for slices.ContainsFunc(writers, func(w *writer) bool { return len(w.next) > 0 }) {
		for _, w := range writers {
			if len(w.next) > 0 {
				w.step()
			}
		}
	}
	if r := shape.Check(a, c); !r.Sound {
		t.Fatalf("%+v: %s", r, state(a))
	}
}

// P12.1: it holds in trees of any form too, whatever is turned, while no latch is given back as unchanged.
func TestItWasSo(t *testing.T) {
	came := 0
	for seed := range 1500 {
		d := dice(seed)
		a := d.any(1 + d.below(5)).lay(t)
		all := make([]traveller, 4)
		for i := range all {
			all[i] = d.traveller(a)
		}
		for range 200 {
			id := 1 + d.below(a.Used())
			word, _ := a.Word(id)
			switch d.below(12) {
			case 0:
				a.Lock(id, word)
			case 1, 2:
				a.Unlock(id, true)
			case 3:
				a.SetHead(id, d.node(a.Used()).Head)
			case 4:
				a.SetBody(id, d.node(a.Used()).Body)
			case 5:
				a.Grow(a.Root(), id)
			default:
				i := d.below(len(all))
				if !all[i].m.Step() {
					continue
				}
				wasSo(t, a, all[i].key, all[i].m)
				if id, _, _ := all[i].m.At(); id > 0 {
					came++
				}
				all[i] = d.traveller(a)
			}
		}
	}
	if came < 1000 {
		t.Errorf("%d came to a node", came)
	}
}

// P3: what a machine tells hangs on no other machine in the same tree: several step by step tell what each tells alone.
func TestMachinesApart(t *testing.T) {
	for seed := range 100 {
		d := dice(seed)
		a, _ := d.sound(t)
		all, alone := make([]traveller, 5), make([]string, 5)
		for i := range all {
			all[i] = d.traveller(a)
			m := descent.New(a, all[i].key, all[i].level)
			for !m.Step() {
			}
			alone[i] = toldAll(m)
		}
		for through := 0; through < len(all); {
			through = 0
			for _, x := range all {
				if x.m.Step() {
					through++
				}
			}
		}
		for i, x := range all {
			if got := toldAll(x.m); got != alone[i] {
				t.Fatalf("%s; alone %s", got, alone[i])
			}
		}
	}
}

// cell is a piece of memory, its spare room too: how it is now, and a way to write over it, and back.
type cell interface {
	state() string
	turn()
}

type textCell []byte

func (c textCell) state() string { return string(c[:cap(c)]) }
func (c textCell) turn() {
	c = c[:cap(c)]
	for i := range c {
		c[i] ^= 0x5a
	}
}

type numbersCell []int

func (c numbersCell) state() string { return fmt.Sprint([]int(c[:cap(c)])) }
func (c numbersCell) turn() {
	c = c[:cap(c)]
	for i := range c {
		c[i] ^= 0x5a
	}
}

// rowsCell is the memory of a list of texts alone: its state tells where its texts lie, not what they say.
type rowsCell struct{ now, other [][]byte }

func (c *rowsCell) state() string {
	s := ""
	for _, text := range c.now {
		s += fmt.Sprintf("%p %d, ", text, len(text))
	}
	return s
}

func (c *rowsCell) turn() {
	for i := range c.now {
		c.now[i], c.other[i] = c.other[i], c.now[i]
	}
}

// cells are the memory of a node, piece by piece.
func cells(n api.Node) []cell {
	rows := func(l [][]byte) cell { return &rowsCell{l[:cap(l)], make([][]byte, cap(l))} }
	l := []cell{textCell(n.High), rows(n.Keys), rows(n.Values), numbersCell(n.Kids)}
	for _, text := range slices.Concat(n.Keys, n.Values) {
		l = append(l, textCell(text))
	}
	return l
}

func states(l []cell) []string {
	var out []string
	for _, c := range l {
		out = append(out, c.state())
	}
	return out
}

// apart: does none of some pieces of memory lie in another one?
func apart(l []cell) bool {
	was := states(l)
	for i, c := range l {
		c.turn()
		now := states(l)
		now[i] = was[i]
		c.turn()
		if !slices.Equal(now, was) {
			return false
		}
	}
	return true
}

// P3: what At tells is new memory, call by call: whoever writes over it changes no later answer, no arena, and no other list.
func TestMemory(t *testing.T) {
	for seed := range 300 {
		d := dice(seed)
		n := d.node(3)
		n.Level, n.High = 0, append([]byte("z"), d.key()...)
		a := tree{1, []api.Node{n}}.lay(t)
		m := descent.New(a, []byte("a"), 0)
		for !m.Step() {
		}
		was, all := toldAll(m), state(a)
		_, _, one := m.At()
		_, _, two := m.At()
		pieces := append(cells(one), cells(two)...)
		if !apart(pieces) {
			t.Fatalf("memory is shared: %s", was)
		}
		for _, c := range pieces {
			c.turn()
		}
		if got := toldAll(m); got != was || state(a) != all {
			t.Fatalf("%s; not %s", got, was)
		}
		if m.Step(); toldAll(m) != was {
			t.Fatalf("%s; not %s", toldAll(m), was)
		}
	}
}

// P1: no call panics at any argument, in trees of any form, at any step.
func TestAnyArguments(t *testing.T) {
	keys := [][]byte{nil, {}, {0}, {255}, []byte("m"), make([]byte, 64), make([]byte, 65), bytes.Repeat([]byte{255}, 5000)}
	levels := []int{math.MinInt, math.MinInt + 1, -1, 0, 1, 2, 3, 31, 32, 33, math.MaxInt - 1, math.MaxInt}
	d := dice(5)
	for range 12 {
		a := d.any(1 + d.below(6)).lay(t)
		for _, key := range keys {
			for _, level := range levels {
				m := descent.New(a, key, level)
				for range 60 {
					m.At()
					m.Again()
					m.Right()
					m.Step()
				}
			}
		}
	}
}
