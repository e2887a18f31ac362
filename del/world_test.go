package del_test

import (
	"bytes"
	"fmt"
	"maps"
	"reflect"
	"runtime"
	"slices"
	"strings"
	"testing"

	"coppice/api"
	"coppice/arena"
	"coppice/del"
	"coppice/get"
	"coppice/put"
	"coppice/shape"
)

// two is the configuration of most tests: leaves of two entries, inner nodes of three children.
func two() api.Config { return api.Config{Nodes: 20, Leaf: 2, Inner: 3, Fill: 2, Block: 4} }

// task is something that a hand does: "del", "put" or "get".
type task struct{ kind, key, value string }

// machine is what all hands work by.
type machine interface{ Step() (bool, bool) }

// hand is a machine that does a task in a world.
type hand struct {
	task
	machine
	through bool

	points int    // how often it took effect
	was    string // what the map had for its key just ahead of that
	there  bool

	// Of a deletion:
	mine  int // the slot whose latch it holds; 0: it holds none
	laid  int // how often it laid a body
	freed int // how often it gave a latch back
}

// world is a tree on which hands work, and the map of what took effect.
type world struct {
	t       *testing.T
	a       *arena.Arena
	c       api.Config
	effects map[string]string
	hands   []*hand
}

// newWorld has a tree; its map is what has taken effect so far.
func newWorld(t *testing.T, x tree, c api.Config) *world {
	t.Helper()
	w := &world{t: t, a: x.lay(t), c: c, effects: map[string]string{}}
	for _, e := range shape.Map(w.a) {
		w.effects[string(e.Key)] = string(e.Value)
	}
	return w
}

// hand is a new one with a task.
func (w *world) hand(x task) *hand {
	h := &hand{task: x}
	switch x.kind {
	case "del":
		h.machine = del.New(w.a, []byte(x.key))
	case "put":
		h.machine = put.New(w.a, w.c, []byte(x.key), []byte(x.value))
	case "get":
		h.machine = get.New(w.a, []byte(x.key))
	}
	return h
}

// inside tells all that a machine knows: its fields, and which functions are kept in them. The arena is left out: it is told by itself.
func inside(s *strings.Builder, v reflect.Value) {
	switch v.Kind() {
	case reflect.Pointer:
		if v.Type() != reflect.TypeFor[*arena.Arena]() && !v.IsNil() {
			inside(s, v.Elem())
		}
	case reflect.Struct:
		for i := range v.NumField() {
			inside(s, v.Field(i))
		}
	case reflect.Slice:
		fmt.Fprintf(s, "%d(", v.Len())
		for i := range v.Len() {
			inside(s, v.Index(i))
		}
		s.WriteString(")")
	case reflect.Func:
		if !v.IsNil() {
			s.WriteString(runtime.FuncForPC(v.Pointer()).Name())
		}
		s.WriteString(" ")
	case reflect.Bool:
		fmt.Fprint(s, v.Bool(), " ")
	default:
		if v.CanUint() {
			fmt.Fprint(s, v.Uint(), " ")
		} else {
			fmt.Fprint(s, v.Int(), " ")
		}
	}
}

// all is all that a world is: what stands in it, what its hands know, what took effect.
func (w *world) all() string {
	var s strings.Builder
	s.WriteString(mark(w.a))
	for _, h := range w.hands {
		inside(&s, reflect.ValueOf(h.machine))
		fmt.Fprintln(&s, h.points, h.was, h.there, h.mine, h.laid, h.freed)
	}
	fmt.Fprint(&s, w.effects)
	return s.String()
}

// picture is what an arena has: its slots, if a latch is held; else none of them can be changed, as the arena refuses it.
type picture struct {
	root, used int
	words      []uint64
	nodes      []api.Node
}

func (w *world) picture() picture {
	p := picture{root: w.a.Root(), used: w.a.Used(), words: wordsOf(w.a)}
	if len(w.a.Held()) > 0 {
		for id := 1; id <= p.used; id++ {
			p.nodes = append(p.nodes, read(w.a, id))
		}
	}
	return p
}

// step does a hand's next step, and holds what it did against the promises.
func (w *world) step(h *hand) {
	w.t.Helper()
	was := w.picture()
	through, took := h.Step()
	if h.kind == "del" {
		w.nothingElse(h, was)
	}
	if took {
		w.effect(h, through)
	}
	if through && !h.through {
		w.end(h)
	}
	h.through = through
	if len(w.a.Held()) == 0 && (was.root != w.a.Root() || !slices.Equal(was.words, wordsOf(w.a))) {
		w.settled()
	}
}

// nothingElse follows what a deletion turns in a step (P15.2): a latch that it takes and gives back, and, while it holds it, that slot's body.
func (w *world) nothingElse(h *hand, was picture) {
	w.t.Helper()
	now := wordsOf(w.a)
	if was.root != w.a.Root() || was.used != w.a.Used() {
		w.t.Fatalf("%q turned the root, or took a slot: %s", h.task, state(w.a))
	}
	for i, n := range was.nodes {
		w.bodyAlone(h, i+1, n)
	}
	for i, word := range was.words {
		switch id := i + 1; {
		case now[i] == word:
		case now[i] == word+1 && word%2 == 0 && h.mine == 0:
			h.mine = id
		case now[i] == word+1 && word%2 == 1 && h.mine == id:
			h.mine = 0
			h.freed++
		default:
			w.t.Fatalf("%q, which holds %d, turned the word of %d from %d to %d", h.task, h.mine, id, word, now[i])
		}
	}
}

// bodyAlone: of a slot nothing is turned but the body, and that by its latch's holder: it is without the key then.
func (w *world) bodyAlone(h *hand, id int, was api.Node) {
	w.t.Helper()
	now := read(w.a, id)
	if told(now) == told(was) {
		return
	}
	h.laid++
	less := was
	less.Keys, less.Values = nil, nil
	for i, key := range was.Keys {
		if !bytes.Equal(key, []byte(h.key)) {
			less.Keys, less.Values = append(less.Keys, key), append(less.Values, was.Values[i])
		}
	}
	if id != h.mine || told(now) != told(less) {
		w.t.Fatalf("%q, which holds %d, turned %d from %s to %s", h.task, h.mine, id, told(was), told(now))
	}
}

// effect: a hand took effect in this step. What it answers is held against the map of this moment.
func (w *world) effect(h *hand, through bool) {
	w.t.Helper()
	h.points++
	h.was, h.there = w.effects[h.key], false
	_, h.there = w.effects[h.key]
	switch m := h.machine.(type) {
	case *del.Machine:
		if !through || answered(m) != (answer{there: h.there}) {
			w.t.Fatalf("%q: %v, %v; it was there: %v: %s", h.task, through, answered(m), h.there, state(w.a))
		}
		delete(w.effects, h.key)
	case *put.Machine:
		if _, err := m.Answer(); err == api.OK {
			w.effects[h.key] = h.value
		}
	case *get.Machine:
		value, there, err := m.Answer()
		if string(value) != h.was || there != h.there || err != api.OK {
			w.t.Fatalf("%q: %q, %v, %d; not %q, %v: %s", h.task, value, there, err, h.was, h.there, state(w.a))
		}
	}
}

// end: a hand is through. It took effect once; a deletion laid the leaf once and gave its latch back once, if the key was there, and has turned nothing otherwise.
func (w *world) end(h *hand) {
	w.t.Helper()
	times := 0
	if h.there {
		times = 1
	}
	if h.points != 1 || h.kind == "del" && (h.mine != 0 || h.laid != times || h.freed != times) {
		w.t.Fatalf("%q took effect %d times, holds %d, laid %d bodies, gave back %d latches; it was there: %v", h.task, h.points, h.mine, h.laid, h.freed, h.there)
	}
	if m, is := h.machine.(*put.Machine); is {
		if had, err := m.Answer(); err != api.ErrFull && (err != api.OK || had != h.there) {
			w.t.Fatalf("%q: %v, %d; not %v", h.task, had, err, h.there)
		}
	}
}

// settled: no latch is held. The tree is sound, and its map is that of what took effect (P15.1).
func (w *world) settled() api.Report {
	w.t.Helper()
	r := shape.Check(w.a, w.c)
	if !r.Sound {
		w.t.Fatalf("%+v: %s", r, state(w.a))
	}
	was := map[string]string{}
	for _, e := range shape.Map(w.a) {
		was[string(e.Key)] = string(e.Value)
	}
	if !maps.Equal(was, w.effects) {
		w.t.Fatalf("the leaves have %q; not %q: %s", was, w.effects, state(w.a))
	}
	return r
}
