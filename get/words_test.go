package get_test

import (
	"math"
	"testing"

	"coppice/api"
	"coppice/arena"
	"coppice/get"
)

// words is the chapter told once more, with that of the descent: a look by the names of its steps, with keys as strings.
type words struct {
	a    *arena.Arena
	key  string
	next string // empty: it is through
	id   int
	word uint64
	head api.Head
	body api.Body
	took bool
	told answer
}

func newWords(a *arena.Arena, key string) *words {
	if len(key) < 1 || len(key) > 64 {
		return &words{next: "ARGS"}
	}
	return &words{a: a, key: key, next: "ROOT"}
}

func (w *words) step() (bool, bool) {
	w.took = false
	err := api.OK
	switch w.next {
	case "ARGS":
		w.next, w.took, w.told = "", true, failed(api.ErrLong)
	case "ROOT":
		w.id, w.next = w.a.Root(), "WORD"
	case "WORD":
		w.word, err = w.a.Word(w.id)
		if w.word%2 == 0 {
			w.next = "HEAD"
		}
	case "HEAD":
		w.head, err = w.a.Head(w.id)
		w.next = "BODY"
	case "BODY":
		w.body, err = w.a.Body(w.id)
		w.next = "VALID"
	case "VALID":
		var word uint64
		if word, err = w.a.Word(w.id); err == api.OK {
			w.behindValid(word)
		}
	}
	if err != api.OK {
		w.none()
	}
	return w.next == "", w.took
}

func (w *words) none() { w.next, w.told = "", failed(api.ErrArenaNode) }

func (w *words) behindValid(word uint64) {
	high := string(w.head.High)
	switch {
	case word != w.word:
		w.next = "ROOT"
	case w.head.Level < 0:
		w.none()
	case high != "" && w.key >= high:
		w.id, w.next = w.head.Right, "WORD"
	case w.head.Level > 0:
		w.id, w.next = w.child(), "WORD"
	default:
		w.next, w.took, w.told = "", true, w.value()
	}
}

func (w *words) child() int {
	i := 0
	for _, k := range w.body.Keys {
		if string(k) <= w.key {
			i++
		}
	}
	for last := len(w.body.Kids) - 1; last >= 0; last-- {
		if last <= i {
			return w.body.Kids[last]
		}
	}
	return 0
}

func (w *words) value() answer {
	for i, k := range w.body.Keys {
		if string(k) != w.key {
			continue
		}
		if i < len(w.body.Values) {
			return found(string(w.body.Values[i]))
		}
		return found("")
	}
	return nothing
}

// both is a machine and the chapter's words, side by side.
type both struct {
	m *get.Machine
	w *words
	a *arena.Arena
}

func newBoth(a *arena.Arena, key []byte) both {
	return both{get.New(a, key), newWords(a, string(key)), a}
}

// step does one step of each: they must tell the same then.
func (b both) step(t *testing.T) bool {
	t.Helper()
	was, next := state(b.a), b.w.next
	through, took := b.m.Step()
	got := answered(b.m)
	if now := state(b.a); now != was {
		t.Fatalf("%s turned %s\nto %s", next, was, now)
	}
	if wantThrough, wantTook := b.w.step(); through != wantThrough || took != wantTook || got != b.w.told {
		t.Fatalf("%s: %v, %v, %v; not %v, %v, %v: key %q in %s", next, through, took, got, wantThrough, wantTook, b.w.told, b.w.key, was)
	}
	return through
}

// any is a tree of nodes of any form, whose numbers often lead to one another.
func (d *dice) any(nodes int) tree {
	x := tree{root: 1 + d.below(nodes)}
	for range nodes {
		x.nodes = append(x.nodes, d.node(nodes))
	}
	return x
}

func (d *dice) node(nodes int) api.Node {
	number := func() int {
		return d.pick(d.below(nodes+1), 1+d.below(nodes), 1+d.below(nodes), 1+d.below(nodes), nodes+1, -1, math.MinInt, math.MaxInt)
	}
	n := api.Node{Head: api.Head{Level: d.pick(0, 0, 0, 0, 0, 0, 0, 1, 1, 2, 3, -1, math.MinInt, math.MaxInt)}}
	if d.below(3) > 0 {
		n.High, n.Right = d.text(), number()
	}
	for range d.below(12) {
		n.Keys = append(n.Keys, d.text())
	}
	for range d.below(12) {
		n.Values = append(n.Values, d.text())
	}
	for range d.below(5) {
		n.Kids = append(n.Kids, number())
	}
	return n
}

// turn does one call that turns something, of any that an arena has; now and then the arena is another one.
func (d *dice) turn(a *arena.Arena) {
	id := d.below(a.Used() + 2)
	switch d.below(12) {
	case 0, 1, 2:
		word, _ := a.Word(id)
		a.Lock(id, word)
	case 3, 4:
		a.Unlock(id, true)
	case 5:
		a.Unlock(id, false)
	case 6, 7:
		a.SetHead(id, d.node(a.Used()).Head)
	case 8, 9:
		a.SetBody(id, d.node(a.Used()).Body)
	case 10:
		a.Grow(a.Root(), id)
	case 11:
		switch d.below(8) {
		case 0:
			fresh, _ := arena.New(1 + d.below(3))
			*a = *fresh
		case 1, 2, 3:
			a.Alloc()
		}
	}
}

// ways counts how machines ended.
type ways struct{ there, missing, none, wrong, underWay int }

func (x *ways) add(b both) {
	switch got := answered(b.m); {
	case b.w.next != "":
		x.underWay++
	case got.err == api.ErrLong:
		x.wrong++
	case got.err == api.ErrArenaNode:
		x.none++
	case got.there:
		x.there++
	default:
		x.missing++
	}
}

// enough: did so many end in each way?
func (x ways) enough(t *testing.T, least int) {
	t.Helper()
	if min(x.there, x.missing, x.none, x.wrong, x.underWay) < least {
		t.Errorf("%+v", x)
	}
}

// Machines in trees of any form, alone: each step is as the chapter says.
func TestAnyTree(t *testing.T) {
	var seen ways
	for seed := range 4000 {
		d := dice(seed)
		b := newBoth(d.any(1+d.below(6)).lay(t), d.text())
		for steps := 0; steps < 120 && !b.step(t); steps++ {
		}
		seen.add(b)
	}
	seen.enough(t, 20)
}

// Many machines in turns, while anything is turned between: each step is as the chapter says, and what a machine tells hangs on no other one.
func TestAnyTurns(t *testing.T) {
	var seen ways
	for seed := range 500 {
		d := dice(seed)
		a := d.any(1 + d.below(6)).lay(t)
		var all []both
		for range 1 + d.below(6) {
			all = append(all, newBoth(a, d.text()))
		}
		busy := 1 + d.below(20) // one turn in so many turns something
		for range 200 {
			if d.below(busy) == 0 {
				d.turn(a)
			}
			all[d.below(len(all))].step(t)
		}
		for _, b := range all {
			seen.add(b)
		}
	}
	seen.enough(t, 50)
}
