package descent_test

import (
	"fmt"
	"math"
	"testing"

	"coppice/api"
	"coppice/arena"
	"coppice/descent"
)

// words is the chapter's table of steps told once more: a descent by the names of its steps, with keys as strings.
type words struct {
	a            *arena.Arena
	key          string
	level        int
	next         string // empty: it is through
	id           int
	word         uint64
	head         api.Head
	body         api.Body
	none         bool
	again, right int
}

func newWords(a *arena.Arena, key string, level int) *words {
	return &words{a: a, key: key, level: level, next: "ROOT"}
}

func (w *words) step() bool {
	err := api.OK
	switch w.next {
	case "ROOT":
		w.id, w.next = w.a.Root(), "WORD"
	case "WORD":
		w.word, err = w.a.Word(w.id)
		if w.word%2 == 0 {
			w.next = "HEAD"
		}
	case "HEAD":
		w.head, err = w.a.Head(w.id)
		w.next = "BODY"
	case "BODY":
		w.body, err = w.a.Body(w.id)
		w.next = "VALID"
	case "VALID":
		var word uint64
		if word, err = w.a.Word(w.id); err == api.OK {
			w.behindValid(word)
		}
	}
	if err != api.OK {
		w.next, w.none = "", true
	}
	return w.next == ""
}

func (w *words) behindValid(word uint64) {
	if word != w.word {
		w.again++
		w.next = "ROOT"
		return
	}
	if w.head.Level < w.level {
		w.next, w.none = "", true
		return
	}
	if high := string(w.head.High); high != "" && w.key >= high {
		w.id, w.next = w.head.Right, "WORD"
		w.right++
		return
	}
	if w.head.Level == w.level {
		w.next = ""
		return
	}
	w.id, w.next = w.child(), "WORD"
}

func (w *words) child() int {
	i := 0
	for _, k := range w.body.Keys {
		if string(k) <= w.key {
			i++
		}
	}
	for last := len(w.body.Kids) - 1; last >= 0; last-- {
		if last <= i {
			return w.body.Kids[last]
		}
	}
	return 0
}

// told is what toldAll is to tell of a machine that took the same steps.
func (w *words) told() string {
	if w.next != "" || w.none {
		return nowhere(w.again, w.right)
	}
	return fmt.Sprintf("at %d, word %d, %s; again %d, right %d", w.id, w.word, told(api.Node{Head: w.head, Body: w.body}), w.again, w.right)
}

// both is a machine and the chapter's words, side by side.
type both struct {
	m *descent.Machine
	w *words
}

func newBoth(a *arena.Arena, key []byte, level int) both {
	return both{descent.New(a, key, level), newWords(a, string(key), level)}
}

// step does one step of each: they must tell the same then.
func (b both) step(t *testing.T) bool {
	t.Helper()
	was, next := state(b.w.a), b.w.next
	got := b.m.Step()
	if now := state(b.w.a); now != was {
		t.Fatalf("%s turned %s\nto %s", next, was, now)
	}
	if want := b.w.step(); got != want || toldAll(b.m) != b.w.told() {
		t.Fatalf("%s: %v, %s; not %v, %s: key %q, level %d in %s", next, got, toldAll(b.m), want, b.w.told(), b.w.key, b.w.level, was)
	}
	return got
}

// any is a tree of nodes of any form, whose numbers often lead to one another.
func (d *dice) any(nodes int) tree {
	x := tree{root: 1 + d.below(nodes)}
	for range nodes {
		x.nodes = append(x.nodes, d.node(nodes))
	}
	return x
}

func (d *dice) node(nodes int) api.Node {
	number := func() int {
		return d.pick(d.below(nodes+1), 1+d.below(nodes), 1+d.below(nodes), 1+d.below(nodes), nodes+1, -1, math.MinInt, math.MaxInt)
	}
	n := api.Node{Head: api.Head{Level: d.pick(0, 0, 0, 0, 1, 1, 1, 2, 2, 3, -1, math.MinInt, math.MaxInt)}}
	if d.below(3) > 0 {
		n.High, n.Right = d.key(), number()
	}
	for range d.below(4) {
		n.Keys, n.Values = append(n.Keys, d.key()), append(n.Values, d.key())
	}
	for range d.below(5) {
		n.Kids = append(n.Kids, number())
	}
	return n
}

// turn does one call that turns something, of any that an arena has; now and then the arena is another one.
func (d *dice) turn(a *arena.Arena) {
	id := d.below(a.Used() + 2)
	switch d.below(12) {
	case 0, 1, 2:
		word, _ := a.Word(id)
		a.Lock(id, word)
	case 3, 4:
		a.Unlock(id, true)
	case 5:
		a.Unlock(id, false)
	case 6, 7:
		a.SetHead(id, d.node(a.Used()).Head)
	case 8, 9:
		a.SetBody(id, d.node(a.Used()).Body)
	case 10:
		a.Grow(a.Root(), id)
	case 11:
		switch d.below(8) {
		case 0:
			fresh, _ := arena.New(1 + d.below(3))
			*a = *fresh
		case 1, 2, 3:
			a.Alloc()
		}
	}
}

// Machines in trees of any form, alone: each step is as the chapter says.
func TestAnyTree(t *testing.T) {
	came, none, round := 0, 0, 0
	for seed := range 4000 {
		d := dice(seed)
		a := d.any(1 + d.below(6)).lay(t)
		b := newBoth(a, d.key(), d.pick(0, 0, 0, 0, 1, 1, 2, 3, -1, math.MinInt, math.MaxInt))
		steps := 0
		for steps < 200 && !b.step(t) {
			steps++
		}
		switch id, _, _ := b.m.At(); {
		case steps == 200:
			round++
		case id == 0:
			none++
		default:
			came++
		}
	}
	if came < 500 || none < 500 || round < 20 {
		t.Errorf("%d came to a node, %d to none, %d go round", came, none, round)
	}
}

// Many machines in turns, while anything is turned between: each step is as the chapter says, and what a machine tells hangs on no other one.
func TestAnyTurns(t *testing.T) {
	came, none, again, right := 0, 0, 0, 0
	for seed := range 600 {
		d := dice(seed)
		a := d.any(1 + d.below(6)).lay(t)
		var all []both
		for range 1 + d.below(6) {
			all = append(all, newBoth(a, d.key(), d.pick(0, 0, 0, 0, 1, 1, 2, -1)))
		}
		busy := 1 + d.below(20) // one turn in so many turns something
		for range 300 {
			if d.below(busy) == 0 {
				d.turn(a)
			}
			all[d.below(len(all))].step(t)
		}
		for _, b := range all {
			again, right = again+b.m.Again(), right+b.m.Right()
			if id, _, _ := b.m.At(); id > 0 {
				came++
			} else if b.w.next == "" {
				none++
			}
		}
	}
	if came < 300 || none < 300 || again < 300 || right < 300 {
		t.Errorf("%d came to a node, %d to none; again %d, right %d", came, none, again, right)
	}
}
