package put_test

import (
	"fmt"
	"maps"
	"slices"
	"testing"

	"coppice/api"
	"coppice/arena"
	"coppice/get"
	"coppice/node"
	"coppice/put"
	"coppice/shape"
)

// task is something that a hand does: "put", "get" or "del".
type task struct{ kind, key, value string }

// hand is a machine that does a task in a world.
type hand struct {
	task
	put     *put.Machine
	get     *get.Machine
	del     *eraser
	tell    teller // its telling, in the twin arena, if there is one
	through bool

	points int    // how often it took effect
	was    string // what the map had for its key just ahead of that
	there  bool

	mine    []int          // latches that it holds
	since   int            // how many steps it took since it took one of the tree's
	changed bool           // has it changed a node?
	moved   map[int]uint64 // by how much it moved each word
}

// teller is a telling of a hand's steps.
type teller interface {
	step() (bool, bool)
	all() string
}

// all is all that a telling knows.
func (w *words) all() string {
	var b []byte
	for _, n := range []api.Node{w.n, w.m, w.p, w.q} {
		b = markNode(b, n)
	}
	return fmt.Sprint(w.next, " ", w.sep, " ", w.k, " ", w.level, w.had, w.told, w.locked, w.id, w.word, w.s, w.l, w.r, w.t, " ") + string(b)
}

// look is the telling of a get: the way down to the leaf.
type look struct{ *words }

func (l look) step() (bool, bool) {
	if l.next == "" {
		return true, false
	}
	l.down()
	if l.next == "LOCK" {
		l.end(true, api.OK)
	}
	return l.next == "", l.took
}

// eraser is a deletion, as its chapter tells it.
type eraser struct{ *words }

func (e *eraser) step() (bool, bool) {
	switch {
	case e.next == "":
		return true, false
	case e.next == "LOCK":
		e.next = "ROOT"
		if is, _ := e.a.Lock(e.id, e.word); is {
			e.locked, e.next = true, "BODY"
		}
	case e.next == "BODY" && e.locked:
		less, _ := node.Without(e.n, []byte(e.sep))
		e.a.SetBody(e.id, less.Body)
		e.next = "FREE"
	case e.next == "FREE":
		e.a.Unlock(e.id, true)
		e.had = true
		e.end(true, api.OK)
		return true, true
	default:
		e.down()
		if _, there := node.Find(e.n, []byte(e.sep)); e.next == "LOCK" && !there {
			e.end(true, api.OK)
			return true, true
		}
	}
	return e.next == "", false
}

// world is a tree on which hands work, and the map of what took effect.
type world struct {
	t       *testing.T
	a       *arena.Arena
	twin    *arena.Arena // nil: there is none
	c       api.Config
	effects map[string]string
	hands   []*hand
}

// newWorld has a tree; its map is what has taken effect so far.
func newWorld(t *testing.T, x tree, c api.Config, twin bool) *world {
	t.Helper()
	w := &world{t: t, a: x.lay(t), c: c, effects: map[string]string{}}
	if twin {
		w.twin = x.lay(t)
	}
	for _, e := range shape.Map(w.a) {
		w.effects[string(e.Key)] = string(e.Value)
	}
	return w
}

// hand is a new one with a task.
func (w *world) hand(x task) *hand {
	h := &hand{task: x, moved: map[int]uint64{}}
	switch x.kind {
	case "put":
		h.put = put.New(w.a, w.c, []byte(x.key), []byte(x.value))
	case "get":
		h.get = get.New(w.a, []byte(x.key))
	case "del":
		h.del = &eraser{newWords(w.a, w.c, x.key, "")}
	}
	if w.twin == nil {
		return h
	}
	telling := newWords(w.twin, w.c, x.key, x.value)
	switch x.kind {
	case "put":
		h.tell = telling
	case "get":
		h.tell = look{telling}
	case "del":
		h.tell = &eraser{telling}
	}
	return h
}

// all is all that a world is: what stands in it, what its hands know, what took effect.
func (w *world) all() string {
	s := mark(w.a)
	for _, h := range w.hands {
		s += fmt.Sprintln(h.tell.all(), h.points, h.was, h.there, h.mine, h.since)
	}
	return s + fmt.Sprint(w.effects)
}

func (h *hand) step() (bool, bool) {
	switch h.kind {
	case "put":
		return h.put.Step()
	case "get":
		return h.get.Step()
	}
	return h.del.step()
}

// step does a hand's next step, and holds what it did against the promises.
func (w *world) step(h *hand) {
	w.t.Helper()
	words, held, root, was := wordsOf(w.a), w.a.Held(), w.a.Root(), ""
	if len(held) > 0 {
		was = markNodes(w.a) // else nothing can be changed: the arena refuses it
	}
	through, took := h.step()
	if h.tell != nil {
		if wantThrough, wantTook := h.tell.step(); through != wantThrough || took != wantTook {
			w.t.Fatalf("%q: %v, %v; not %v, %v", h.task, through, took, wantThrough, wantTook)
		}
	}
	w.latches(h, words, held)
	if len(held) > 0 {
		now := markNodes(w.a)
		h.changed = h.changed || now != was
		if now != was && len(h.mine) == 0 {
			w.t.Fatalf("%q changed a node whose latch it has not: %s", h.task, state(w.a))
		}
	}
	if took {
		w.effect(h, through)
	}
	if through && !h.through {
		w.end(h)
	}
	h.through = through
	if len(w.a.Held()) == 0 && (root != w.a.Root() || !slices.Equal(words, wordsOf(w.a))) {
		w.settled()
	}
}

// latches follows the latches that a hand takes and gives back (P14.4): one of the tree at a time, that of a new slot beside, and for 8 steps at most.
func (w *world) latches(h *hand, words []uint64, held []int) {
	w.t.Helper()
	now := wordsOf(w.a)
	for i, word := range now {
		before := word
		if i < len(words) {
			before = words[i]
		}
		h.moved[i+1] += word - before
	}
	after := w.a.Held()
	if len(h.mine) > 0 {
		h.since++
	}
	for _, id := range held {
		if !slices.Contains(after, id) {
			if !slices.Contains(h.mine, id) {
				w.t.Fatalf("%q gave back %d, which it did not hold", h.task, id)
			}
			h.mine = slices.DeleteFunc(h.mine, func(mine int) bool { return mine == id })
		}
	}
	for _, id := range after {
		if slices.Contains(held, id) {
			continue
		}
		if len(h.mine) == 0 {
			h.since = 0
		} else if id <= len(words) {
			w.t.Fatalf("%q holds %d, and took %d", h.task, h.mine, id)
		}
		h.mine = append(h.mine, id)
	}
	if len(h.mine) > 2 || h.since > 8 || len(h.mine) > 0 && h.kind == "get" {
		w.t.Fatalf("%q holds %d, for %d steps", h.task, h.mine, h.since)
	}
}

// effect: a hand took effect in this step. What it answers is held against the map of this moment.
func (w *world) effect(h *hand, through bool) {
	w.t.Helper()
	h.points++
	h.was, h.there = w.effects[h.key], false
	_, h.there = w.effects[h.key]
	switch h.kind {
	case "put":
		if through && answered(h.put).err != api.OK {
			return
		}
		w.effects[h.key] = h.value
	case "get":
		value, there, err := h.get.Answer()
		if string(value) != h.was || there != h.there || err != api.OK {
			w.t.Fatalf("%q: %q, %v, %d; not %q, %v: %s", h.task, value, there, err, h.was, h.there, state(w.a))
		}
	case "del":
		delete(w.effects, h.key)
	}
}

// end: a hand is through. It took effect once, and says what was there; one that was refused has changed nothing (P14.2).
func (w *world) end(h *hand) {
	w.t.Helper()
	if h.points != 1 || len(h.mine) > 0 {
		w.t.Fatalf("%q took effect %d times, holds %d", h.task, h.points, h.mine)
	}
	if h.kind == "del" && h.del.told != (answer{there: h.there}) {
		w.t.Fatalf("%q: %v", h.task, h.del.told)
	}
	if h.kind != "put" {
		return
	}
	switch got := answered(h.put); got.err {
	case api.OK:
		if got.there != h.there {
			w.t.Fatalf("%q: %v; not %v", h.task, got.there, h.there)
		}
	case api.ErrFull:
		for id, by := range h.moved {
			if by != 0 {
				w.t.Fatalf("%q was refused, and moved the word of %d by %d", h.task, id, by)
			}
		}
		if h.changed || got.there || w.a.Left() > 0 {
			w.t.Fatalf("%q: %v, changed a node: %v; %d slots are left", h.task, got, h.changed, w.a.Left())
		}
	default:
		w.t.Fatalf("%q: %v", h.task, got)
	}
}

// settled: no latch is held. The tree is sound, and its map is that of what took effect (P14.3).
func (w *world) settled() api.Report {
	w.t.Helper()
	r := shape.Check(w.a, w.c)
	if !r.Sound {
		w.t.Fatalf("%+v: %s", r, state(w.a))
	}
	was := map[string]string{}
	for _, e := range shape.Map(w.a) {
		was[string(e.Key)] = string(e.Value)
	}
	if !maps.Equal(was, w.effects) {
		w.t.Fatalf("the leaves have %q; not %q: %s", was, w.effects, state(w.a))
	}
	return r
}
