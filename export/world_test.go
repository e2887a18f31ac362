package export_test

import (
	"fmt"
	"maps"
	"reflect"
	"runtime"
	"slices"
	"strings"
	"testing"

	"coppice/api"
	"coppice/arena"
	"coppice/del"
	"coppice/export"
	"coppice/get"
	"coppice/node"
	"coppice/pipe"
	"coppice/put"
	"coppice/scan"
	"coppice/shape"
	"coppice/stream"
)

// two is the configuration of most tests: leaves of two entries, inner nodes of three children.
func two() api.Config { return api.Config{Nodes: 20, Leaf: 2, Inner: 3, Fill: 2, Block: 4} }

// task is something that a hand does: "export" by block, into a sink; "scan" of all; "del", "put" or "get".
type task struct {
	kind, key, value string
	block            int
	takes            []int
	fail             int
}

// machine is what all hands work by.
type machine interface{ Step() (bool, bool) }

// hand is a machine that does a task in a world.
type hand struct {
	task
	machine
	through bool
	points  int // how often it took effect

	// Of an export:
	sink  *pipe.Sink
	words *words      // beside it: they say at which steps a leaf was taken
	at    string      // up to here all keys are told: those of the leaves that were taken
	told  []api.Entry // what the map had of each leaf when that was taken
	shut  bool        // was the last leaf taken?
	sure  []byte      // what is sure of the stream of all that was told
}

// world is a tree on which hands work, and the map of what took effect.
type world struct {
	t       *testing.T
	a       *arena.Arena
	c       api.Config
	effects map[string]string
	hands   []*hand
}

// newWorld has a tree; its map is what has taken effect so far.
func newWorld(t *testing.T, x tree, c api.Config) *world {
	t.Helper()
	w := &world{t: t, a: x.lay(t), c: c, effects: map[string]string{}}
	for _, e := range shape.Map(w.a) {
		w.effects[string(e.Key)] = string(e.Value)
	}
	return w
}

// hand is a new one with a task.
func (w *world) hand(x task) *hand {
	h := &hand{task: x}
	switch x.kind {
	case "del":
		h.machine = del.New(w.a, []byte(x.key))
	case "put":
		h.machine = put.New(w.a, w.c, []byte(x.key), []byte(x.value))
	case "get":
		h.machine = get.New(w.a, []byte(x.key))
	case "scan":
		h.machine = scan.New(w.a, nil, nil, 99)
	case "export":
		h.sink = pipe.NewSink(x.takes, x.fail)
		h.machine = export.New(w.a, x.block, h.sink)
		h.words = newWords(w.a, x.block, asTold(x.takes, x.fail))
		h.sure = h.words.sure
	}
	return h
}

// inside tells all that a machine knows: its fields, and which functions are kept in them. The arena is left out: it is told by itself.
func inside(s *strings.Builder, v reflect.Value) {
	switch v.Kind() {
	case reflect.Pointer, reflect.Interface:
		if v.Type() != reflect.TypeFor[*arena.Arena]() && !v.IsNil() {
			inside(s, v.Elem())
		}
	case reflect.Struct:
		for i := range v.NumField() {
			inside(s, v.Field(i))
		}
	case reflect.Slice:
		fmt.Fprintf(s, "%d(", v.Len())
		for i := range v.Len() {
			inside(s, v.Index(i))
		}
		s.WriteString(")")
	case reflect.Func:
		if !v.IsNil() {
			s.WriteString(runtime.FuncForPC(v.Pointer()).Name())
		}
		s.WriteString(" ")
	case reflect.Bool:
		fmt.Fprint(s, v.Bool(), " ")
	default:
		if v.CanUint() {
			fmt.Fprint(s, v.Uint(), " ")
		} else {
			fmt.Fprint(s, v.Int(), " ")
		}
	}
}

// all is all that a world is: what stands in it, what its hands know, what took effect.
func (w *world) all() string {
	var s strings.Builder
	s.WriteString(mark(w.a))
	for _, h := range w.hands {
		inside(&s, reflect.ValueOf(h.machine))
		fmt.Fprintf(&s, "%d %q %s\n", h.points, h.at, list(h.told))
	}
	fmt.Fprint(&s, w.effects)
	return s.String()
}

// picture is what an arena has: its slots, if a latch is held; else none of them can be changed, as the arena refuses it.
type picture struct {
	root, used int
	words      []uint64
	nodes      string
}

func (w *world) picture() picture {
	p := picture{root: w.a.Root(), used: w.a.Used(), words: wordsOf(w.a)}
	if len(w.a.Held()) > 0 {
		p.nodes = nodes(w.a)
	}
	return p
}

func (p picture) is(other picture) bool {
	return p.root == other.root && p.used == other.used && slices.Equal(p.words, other.words) && p.nodes == other.nodes
}

// step does a hand's next step, and holds what it did against the promises.
func (w *world) step(h *hand) {
	w.t.Helper()
	was := w.picture()
	took := w.onlyStep(h)
	if m, is := h.machine.(*export.Machine); is {
		if took || !was.is(w.picture()) {
			w.t.Fatalf("%v took effect: %v, or turned something: %s", h.task, took, state(w.a))
		}
		w.exported(h, m)
	}
	if len(w.a.Held()) == 0 && (was.root != w.a.Root() || !slices.Equal(was.words, wordsOf(w.a))) {
		w.settled()
	}
}

// onlyStep does a hand's next step, and keeps account: did it take effect?
func (w *world) onlyStep(h *hand) bool {
	w.t.Helper()
	through, took := h.Step()
	h.through = through
	if took {
		w.effect(h)
	}
	if h.words == nil {
		return took
	}
	if h.words.step(); h.words.took {
		w.leafTaken(h)
	}
	return took
}

// exported: an export has done a step. What it sent is held against what the map had at the moments of its leaves (P17.1, P17.2).
func (w *world) exported(h *hand, m *export.Machine) {
	w.t.Helper()
	entries, bytes := m.Sent()
	b := h.sink.Bytes()
	if entries != len(h.told) || bytes != len(b) {
		w.t.Fatalf("%v: %d entries, %d bytes; not %s, %d", h.task, entries, bytes, list(h.told), len(b))
	}
	if !strings.HasPrefix(string(h.sure), string(b)) {
		w.t.Fatalf("%v: written: %q; not a beginning of %q", h.task, b, h.sure)
	}
	if !h.through || m.Answer() != api.OK {
		if !h.through && m.Answer() != api.OK || h.through && h.fail == 0 {
			w.t.Fatalf("%v: through: %v, error %d", h.task, h.through, m.Answer())
		}
		return
	}
	if l, err, at := stream.Parse(b); err != api.OK || list(l) != list(h.told) || !h.shut {
		w.t.Fatalf("%v: %s, %d at %d; not %s", h.task, list(l), err, at, list(h.told))
	}
}

// leafTaken: an export took in this step the leaf to which the key belongs up to which it has told all. It took what took effect of that leaf's range.
func (w *world) leafTaken(h *hand) {
	high := string(w.leafOf(h.at).High)
	for _, key := range slices.Sorted(maps.Keys(w.effects)) {
		if key >= h.at && (high == "" || key < high) {
			h.told = append(h.told, api.Entry{Key: []byte(key), Value: []byte(w.effects[key])})
		}
	}
	h.at, h.shut = high, high == ""
	h.sure = beginning(h.told, h.block)
	if h.shut {
		h.sure = whole(h.told, h.block)
	}
}

// leafOf is the leaf to which a key belongs now, whoever holds latches.
func (w *world) leafOf(key string) api.Node {
	for n := read(w.a, w.a.Root()); ; {
		switch {
		case node.Beyond(n, []byte(key)):
			n = read(w.a, n.Right)
		case n.Level > 0:
			n = read(w.a, node.Child(n, []byte(key)))
		default:
			return n
		}
	}
}

// effect: a hand took effect in this step.
func (w *world) effect(h *hand) {
	w.t.Helper()
	h.points++
	was, there := w.effects[h.key]
	switch m := h.machine.(type) {
	case *del.Machine:
		delete(w.effects, h.key)
	case *put.Machine:
		if _, err := m.Answer(); err == api.OK {
			w.effects[h.key] = h.value
		}
	case *get.Machine:
		value, is, err := m.Answer()
		if string(value) != was || is != there || err != api.OK {
			w.t.Fatalf("%v: %q, %v, %d; not %q, %v: %s", h.task, value, is, err, was, there, state(w.a))
		}
	}
}

// settled: no latch is held. The tree is sound, and its map is that of what took effect.
func (w *world) settled() api.Report {
	w.t.Helper()
	r := shape.Check(w.a, w.c)
	if !r.Sound {
		w.t.Fatalf("%+v: %s", r, state(w.a))
	}
	was := map[string]string{}
	for _, e := range shape.Map(w.a) {
		was[string(e.Key)] = string(e.Value)
	}
	if !maps.Equal(was, w.effects) {
		w.t.Fatalf("the leaves have %q; not %q: %s", was, w.effects, state(w.a))
	}
	return r
}

// do does a whole task, alone.
func (w *world) do(x task) {
	w.t.Helper()
	for h := w.hand(x); !h.through; {
		w.step(h)
	}
}

// known is a past of the map: what it had for each key at each moment.
type known []map[string]string

// had: had the map this value (or nothing) for a key at some moment?
func (k known) had(key string, value string, there bool) bool {
	return slices.ContainsFunc(k, func(m map[string]string) bool {
		v, is := m[key]
		return is == there && v == value
	})
}
