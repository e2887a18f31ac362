package sched_test

import (
	"encoding/binary"
	"fmt"
	"slices"
	"strconv"
	"strings"
	"testing"

	"coppice/api"
	"coppice/arena"
	"coppice/sched"
	"coppice/stream"
)

func getOp(key string) api.Op { return api.Op{Kind: api.OpGet, Key: []byte(key)} }
func putOp(key, value string) api.Op {
	return api.Op{Kind: api.OpPut, Key: []byte(key), Value: []byte(value)}
}
func delOp(key string) api.Op { return api.Op{Kind: api.OpDelete, Key: []byte(key)} }

func scanOp(lo, hi string, most int) api.Op {
	return api.Op{Kind: api.OpScan, Key: []byte(lo), Hi: []byte(hi), Most: most}
}

func exportOp(fail int, takes ...int) api.Op {
	return api.Op{Kind: api.OpExport, Takes: takes, Fail: fail}
}

func otherOp(kind int) api.Op { return api.Op{Kind: api.OpKind(kind), Key: []byte("b")} }

func ops(l ...api.Op) []api.Op       { return l }
func lists(l ...[]api.Op) [][]api.Op { return l }
func repeat(i int, often int) []int  { return slices.Repeat([]int{i}, often) }
func many(op api.Op, n int) []api.Op { return slices.Repeat([]api.Op{op}, n) }
func turns(l ...[]int) []int         { return slices.Concat(l...) }
func idlers(n int, each int) [][]api.Op {
	return slices.Repeat([][]api.Op{many(otherOp(0), each)}, n)
}

// nine is the configuration of the chapter's examples, twenty that of most other tests.
func nine() api.Config   { return api.Config{Nodes: 9, Leaf: 2, Inner: 3, Fill: 2, Block: 4} }
func twenty() api.Config { return api.Config{Nodes: 20, Leaf: 2, Inner: 3, Fill: 2, Block: 4} }

// small is a script whose First lays two leaves, b 1, c 2 and d 3, under a root.
func small(clients ...[]api.Op) api.Script {
	return api.Script{Config: twenty(), First: ops(putOp("b", "1"), putOp("d", "3"), putOp("c", "2")), Clients: clients}
}

func world(t *testing.T, s api.Script) *sched.World {
	t.Helper()
	w, err := sched.New(s)
	if w == nil || err != api.OK {
		t.Fatalf("New: %v %d", w, err)
	}
	return w
}

// pick picks one by one, and holds against Done and History's Steps what Pick answers.
func pick(t *testing.T, w *sched.World, l ...int) {
	t.Helper()
	for i, number := range l {
		was := w.History().Steps
		if w.Done() || !w.Pick(number) || w.History().Steps != was+1 {
			t.Fatalf("pick %d, of %d: %s", i, number, told(w.History()))
		}
	}
}

// idle picks, each of which does nothing.
func idle(t *testing.T, w *sched.World, l ...int) {
	t.Helper()
	was, stood := told(w.History()), mark(w.Arena())
	for _, number := range l {
		if w.Pick(number) || told(w.History()) != was || mark(w.Arena()) != stood {
			t.Fatalf("pick of %d: %s\nnot\n%s", number, told(w.History()), was)
		}
	}
}

// finish goes round till all is done.
func finish(t *testing.T, w *sched.World) {
	t.Helper()
	for rounds := 0; !w.Done(); rounds++ {
		if rounds > 20000 {
			t.Fatalf("it does not end: %s", told(w.History()))
		}
		for number := range api.MaxClients {
			w.Pick(number)
		}
	}
}

func is(t *testing.T, h api.History, want ...string) {
	t.Helper()
	if got := told(h); got != strings.Join(want, "\n") {
		t.Fatalf("%s\nnot\n%s", got, strings.Join(want, "\n"))
	}
}

// told is a history in words, all of it, a call a line. An empty list is told as one that is nil.
func told(h api.History) string {
	out := []string{strings.TrimSpace("start " + list(h.Start))}
	for _, c := range h.Calls {
		out = append(out, toldCall(c))
	}
	last := fmt.Sprintf("%d steps", h.Steps)
	if h.Done {
		last += ", done"
	}
	if len(h.Held) > 0 {
		last += fmt.Sprint(", held ", h.Held)
	}
	return strings.Join(append(out, last, strings.TrimSpace("end "+list(h.End))), "\n")
}

func toldCall(c api.Call) string {
	s := fmt.Sprintf("%d/%d %s: %d %d %d", c.Client, c.Number, toldOp(c.Op), c.First, c.Last, c.Point)
	if c.Done {
		s += " done"
	}
	if c.Err != api.OK {
		s += fmt.Sprint(" error ", int(c.Err))
	}
	if c.There {
		s += " there"
	}
	if len(c.Value) > 0 {
		s += " value " + bare(c.Value)
	}
	if len(c.Entries) > 0 {
		s += " entries " + list(c.Entries)
	}
	return s
}

func toldOp(op api.Op) string {
	kinds := []string{"get", "put", "del", "scan", "export"}
	s := fmt.Sprint("kind ", int(op.Kind))
	if 1 <= op.Kind && op.Kind <= 5 {
		s = kinds[op.Kind-1]
	}
	if len(op.Key)+len(op.Value) > 0 {
		s += " " + bare(op.Key) + "=" + bare(op.Value)
	}
	if len(op.Hi) > 0 {
		s += " below " + bare(op.Hi)
	}
	if op.Most != 0 {
		s += fmt.Sprint(" most ", op.Most)
	}
	if len(op.Takes) > 0 {
		s += fmt.Sprint(" takes ", op.Takes)
	}
	if op.Fail != 0 {
		s += fmt.Sprint(" fail ", op.Fail)
	}
	return s
}

func bare(text []byte) string {
	quoted := strconv.Quote(string(text))
	return quoted[1 : len(quoted)-1]
}

// list tells entries in short: b=1 d=2.
func list(l []api.Entry) string {
	var out []string
	for _, e := range l {
		out = append(out, bare(e.Key)+"="+bare(e.Value))
	}
	return strings.Join(out, " ")
}

func entry(key, value string) api.Entry { return api.Entry{Key: []byte(key), Value: []byte(value)} }

// streamOf is the stream of some entries.
func streamOf(t *testing.T, block int, l ...api.Entry) string {
	t.Helper()
	b, err, _ := stream.Bytes(l, block)
	if err != api.OK {
		t.Fatalf("Bytes: %d", err)
	}
	return bare(b)
}

// mark is all that an arena tells, as bytes, so that arenas are soon held against one another.
func mark(a *arena.Arena) string {
	b := binary.AppendVarint(nil, int64(a.Left()))
	b = binary.AppendVarint(b, int64(a.Root()))
	for id := 1; id <= a.Used(); id++ {
		word, _ := a.Word(id)
		head, _ := a.Head(id)
		body, _ := a.Body(id)
		b = binary.AppendUvarint(b, word)
		b = binary.AppendVarint(b, int64(head.Level))
		b = binary.AppendVarint(b, int64(head.Right))
		for _, texts := range [][][]byte{{head.High}, body.Keys, body.Values} {
			b = binary.AppendUvarint(b, uint64(len(texts)))
			for _, text := range texts {
				b = append(binary.AppendUvarint(b, uint64(len(text))), text...)
			}
		}
		b = binary.AppendUvarint(b, uint64(len(body.Kids)))
		for _, kid := range body.Kids {
			b = binary.AppendVarint(b, int64(kid))
		}
	}
	return string(b)
}

// dice are numbers below a bound, the same ones at each run.
type dice uint64

func (d *dice) below(n int) int {
	x := uint64(*d)*6364136223846793005 + 1442695040888963407
	*d = dice(x)
	return int((x >> 33) % uint64(n))
}

// pick is one of some numbers.
func (d *dice) pick(l ...int) int { return l[d.below(len(l))] }

// key is one of some few, so that many are there, and clients meet; seldom one that may not be.
func (d *dice) key() []byte {
	if d.below(40) == 0 {
		return slices.Repeat([]byte("k"), d.pick(0, 65))
	}
	return []byte("abcdefghijkl")[d.below(12):][:1]
}

// op is one of any kind.
func (d *dice) op() api.Op {
	switch d.below(12) {
	case 0:
		return otherOp(d.pick(0, 6, -1, 256+1))
	case 1:
		return api.Op{Kind: api.OpScan, Key: d.key(), Hi: d.key(), Most: d.pick(-1, 0, 1, 2, 3, 99)}
	case 2:
		return scanOp("", "", d.pick(1, 3, 99))
	case 3:
		return exportOp(d.pick(0, 0, 0, 1, 2, 3), d.pick(0, 3, 8, 99), d.pick(0, 1, 99), d.pick(0, -9))
	case 4, 5:
		return api.Op{Kind: api.OpGet, Key: d.key()}
	case 6, 7:
		return api.Op{Kind: api.OpDelete, Key: d.key()}
	}
	return api.Op{Kind: api.OpPut, Key: d.key(), Value: strconv.AppendInt(nil, int64(d.below(99)), 10)}
}

func (d *dice) ops(most int) []api.Op {
	var l []api.Op
	for range d.below(most + 1) {
		l = append(l, d.op())
	}
	return l
}

func (d *dice) config() api.Config {
	leaf := 2 + d.below(3)
	return api.Config{Nodes: d.pick(60, 60, 12, 5, 2, 1), Leaf: leaf, Inner: 3 + d.below(2), Fill: 1 + d.below(leaf), Block: 1 + d.below(5)}
}

// script is one of so many clients and operations at most, without picks.
func (d *dice) script(clients int, each int) api.Script {
	s := api.Script{Config: d.config(), First: d.ops(12)}
	for range d.below(clients + 1) {
		s.Clients = append(s.Clients, d.ops(each))
	}
	return s
}

// picks are any, some of numbers that no client has.
func (d *dice) picks(count int, clients int) []int {
	l := make([]int, count)
	for i := range l {
		l[i] = d.below(clients+2) - 1
	}
	return l
}
