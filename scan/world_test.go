package scan_test

import (
	"fmt"
	"maps"
	"reflect"
	"runtime"
	"slices"
	"strings"
	"testing"

	"coppice/api"
	"coppice/arena"
	"coppice/del"
	"coppice/get"
	"coppice/node"
	"coppice/put"
	"coppice/scan"
	"coppice/shape"
)

// two is the configuration of most tests: leaves of two entries, inner nodes of three children.
func two() api.Config { return api.Config{Nodes: 20, Leaf: 2, Inner: 3, Fill: 2, Block: 4} }

// task is something that a hand does: "scan" from key on, below value; "del", "put" or "get".
type task struct {
	kind, key, value string
	most             int
}

// machine is what all hands work by.
type machine interface{ Step() (bool, bool) }

// hand is a machine that does a task in a world.
type hand struct {
	task
	machine
	through bool
	points  int // how often it took effect

	// Of a scan:
	words *words      // beside it: they say at which steps a leaf was taken
	at    string      // up to here the range's keys are told: those of the leaves that were taken
	told  []api.Entry // all that was fresh
}

// world is a tree on which hands work, and the map of what took effect.
type world struct {
	t       *testing.T
	a       *arena.Arena
	c       api.Config
	effects map[string]string
	hands   []*hand
}

// newWorld has a tree; its map is what has taken effect so far.
func newWorld(t *testing.T, x tree, c api.Config) *world {
	t.Helper()
	w := &world{t: t, a: x.lay(t), c: c, effects: map[string]string{}}
	for _, e := range shape.Map(w.a) {
		w.effects[string(e.Key)] = string(e.Value)
	}
	return w
}

// hand is a new one with a task.
func (w *world) hand(x task) *hand {
	h := &hand{task: x}
	switch x.kind {
	case "del":
		h.machine = del.New(w.a, []byte(x.key))
	case "put":
		h.machine = put.New(w.a, w.c, []byte(x.key), []byte(x.value))
	case "get":
		h.machine = get.New(w.a, []byte(x.key))
	case "scan":
		h.machine = scan.New(w.a, []byte(x.key), []byte(x.value), x.most)
		h.words, h.at = newWords(w.a, x.key, x.value, x.most), x.key
	}
	return h
}

// inside tells all that a machine knows: its fields, and which functions are kept in them. The arena is left out: it is told by itself.
func inside(s *strings.Builder, v reflect.Value) {
	switch v.Kind() {
	case reflect.Pointer:
		if v.Type() != reflect.TypeFor[*arena.Arena]() && !v.IsNil() {
			inside(s, v.Elem())
		}
	case reflect.Struct:
		for i := range v.NumField() {
			inside(s, v.Field(i))
		}
	case reflect.Slice:
		fmt.Fprintf(s, "%d(", v.Len())
		for i := range v.Len() {
			inside(s, v.Index(i))
		}
		s.WriteString(")")
	case reflect.Func:
		if !v.IsNil() {
			s.WriteString(runtime.FuncForPC(v.Pointer()).Name())
		}
		s.WriteString(" ")
	case reflect.Bool:
		fmt.Fprint(s, v.Bool(), " ")
	default:
		if v.CanUint() {
			fmt.Fprint(s, v.Uint(), " ")
		} else {
			fmt.Fprint(s, v.Int(), " ")
		}
	}
}

// all is all that a world is: what stands in it, what its hands know, what took effect.
func (w *world) all() string {
	var s strings.Builder
	s.WriteString(mark(w.a))
	for _, h := range w.hands {
		inside(&s, reflect.ValueOf(h.machine))
		fmt.Fprintf(&s, "%d %q %s\n", h.points, h.at, list(h.told))
	}
	fmt.Fprint(&s, w.effects)
	return s.String()
}

// picture is what an arena has: its slots, if a latch is held; else none of them can be changed, as the arena refuses it.
type picture struct {
	root, used int
	words      []uint64
	nodes      string
}

func (w *world) picture() picture {
	p := picture{root: w.a.Root(), used: w.a.Used(), words: wordsOf(w.a)}
	if len(w.a.Held()) > 0 {
		p.nodes = nodes(w.a)
	}
	return p
}

func (p picture) is(other picture) bool {
	return p.root == other.root && p.used == other.used && slices.Equal(p.words, other.words) && p.nodes == other.nodes
}

// step does a hand's next step, and holds what it did against the promises.
func (w *world) step(h *hand) {
	w.t.Helper()
	was := w.picture()
	through, took := h.Step()
	if took {
		w.effect(h)
	}
	if m, is := h.machine.(*scan.Machine); is {
		if took || !was.is(w.picture()) {
			w.t.Fatalf("%v took effect: %v, or turned something: %s", h.task, took, state(w.a))
		}
		w.scanned(h, m, through)
	}
	if h.kind != "scan" && through && h.points != 1 {
		w.t.Fatalf("%v took effect %d times", h.task, h.points)
	}
	h.through = through
	if len(w.a.Held()) == 0 && (was.root != w.a.Root() || !slices.Equal(was.words, wordsOf(w.a))) {
		w.settled()
	}
}

// scanned: a scan has done a step. What it took is held against the map of this moment (P16.1), and its answer against all that was fresh.
func (w *world) scanned(h *hand, m *scan.Machine, through bool) {
	w.t.Helper()
	fresh := m.Fresh()
	h.words.step()
	switch {
	case h.words.took:
		w.leafTaken(h, fresh, through)
	case len(fresh) > 0:
		w.t.Fatalf("%v took %s, and no leaf: %s", h.task, list(fresh), state(w.a))
	}
	h.told = append(h.told, fresh...)
	want := found("")
	if through {
		want = found(list(h.told))
	}
	if got := answered(m); got != want || !rises(h.told, h.key, h.value, h.most) {
		w.t.Fatalf("%v: %v; not %v", h.task, got, want)
	}
}

// leafTaken: a scan took in this step the leaf to which the key belongs up to which it has told all. It took what took effect of that leaf's range, up to the most that it may take.
func (w *world) leafTaken(h *hand, fresh []api.Entry, through bool) {
	w.t.Helper()
	high := string(w.leafOf(h.at).High)
	if high == "" || h.value != "" && h.value < high {
		high = h.value
	}
	var want []api.Entry
	for _, key := range slices.Sorted(maps.Keys(w.effects)) {
		if key >= h.at && (high == "" || key < high) && len(h.told)+len(want) < h.most {
			want = append(want, api.Entry{Key: []byte(key), Value: []byte(w.effects[key])})
		}
	}
	if list(fresh) != list(want) {
		w.t.Fatalf("%v took %s from %q to %q; the map has %s: %s", h.task, list(fresh), h.at, high, list(want), state(w.a))
	}
	if last := high == h.value || len(h.told)+len(want) == h.most; through != last {
		w.t.Fatalf("%v, behind the leaf from %q to %q: through: %v; not %v: %s", h.task, h.at, high, through, last, state(w.a))
	}
	h.at = high
}

// leafOf is the leaf to which a key belongs now, whoever holds latches.
func (w *world) leafOf(key string) api.Node {
	for n := read(w.a, w.a.Root()); ; {
		switch {
		case node.Beyond(n, []byte(key)):
			n = read(w.a, n.Right)
		case n.Level > 0:
			n = read(w.a, node.Child(n, []byte(key)))
		default:
			return n
		}
	}
}

// effect: a hand took effect in this step.
func (w *world) effect(h *hand) {
	w.t.Helper()
	h.points++
	was, there := w.effects[h.key]
	switch m := h.machine.(type) {
	case *del.Machine:
		delete(w.effects, h.key)
	case *put.Machine:
		if _, err := m.Answer(); err == api.OK {
			w.effects[h.key] = h.value
		}
	case *get.Machine:
		value, is, err := m.Answer()
		if string(value) != was || is != there || err != api.OK {
			w.t.Fatalf("%v: %q, %v, %d; not %q, %v: %s", h.task, value, is, err, was, there, state(w.a))
		}
	}
}

// settled: no latch is held. The tree is sound, and its map is that of what took effect.
func (w *world) settled() api.Report {
	w.t.Helper()
	r := shape.Check(w.a, w.c)
	if !r.Sound {
		w.t.Fatalf("%+v: %s", r, state(w.a))
	}
	was := map[string]string{}
	for _, e := range shape.Map(w.a) {
		was[string(e.Key)] = string(e.Value)
	}
	if !maps.Equal(was, w.effects) {
		w.t.Fatalf("the leaves have %q; not %q: %s", was, w.effects, state(w.a))
	}
	return r
}

// known is a past of the map: what it had for each key at each moment.
type known []map[string]string

// had: had the map this value (or nothing) for a key at some moment?
func (k known) had(key string, value string, there bool) bool {
	return slices.ContainsFunc(k, func(m map[string]string) bool {
		v, is := m[key]
		return is == there && v == value
	})
}
