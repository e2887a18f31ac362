package client_test

import (
	"fmt"
	"maps"
	"slices"
	"strings"
	"testing"

	"coppice/api"
	"coppice/shape"
	"coppice/stream"
)

// repeat is a client's number, so often.
func repeat(i int, often int) []int { return slices.Repeat([]int{i}, often) }

// played is a run of clients in an empty tree, by turns at moments from 0 on.
func played(t *testing.T, lists [][]api.Op, turns ...[]int) *run {
	t.Helper()
	r := start(t, lone(), two(), lists...)
	for _, l := range turns {
		r.turns(l...)
	}
	return r
}

func (r *run) tell(want ...string) {
	r.t.Helper()
	if got := all(r.calls()); got != strings.Join(want, "\n") {
		r.t.Fatalf("%s\nnot\n%s", got, strings.Join(want, "\n"))
	}
}

// The document's examples of the whole that speak of clients: two puts of one key, one of which waits for the other's latch; a look that begins anew; an export behind two puts.
func TestExamplesOfTheWhole(t *testing.T) {
	puts := [][]api.Op{{putOp("k", "1")}, {putOp("k", "2")}}
	r := played(t, puts, repeat(0, 7), repeat(1, 8), repeat(0, 1))
	if !r.clients[0].Done() {
		t.Fatal("0 is not done")
	}
	r.turns(repeat(1, 7)...)
	r.tell("0/0 put k=1: 0 15 15 done", "1/0 put k=2: 7 22 22 done there")
	if got := list(shape.Map(r.a)); got != "k=2" || r.now != 23 || !r.clients[1].Done() {
		t.Fatalf("%s, %d steps", got, r.now)
	}

	r = played(t, puts, repeat(0, 7), repeat(1, 8), repeat(0, 1), repeat(1, 6))
	r.tell("0/0 put k=1: 0 15 15 done", "1/0 put k=2: 7 -1 -1")
	if got := list(shape.Map(r.a)); got != "k=2" || !slices.Equal(r.a.Held(), []int{1}) {
		t.Fatalf("%s, held %d", got, r.a.Held())
	}

	r = played(t, [][]api.Op{{putOp("k", "1")}, {getOp("k")}}, repeat(1, 3), repeat(0, 8), repeat(1, 2), repeat(1, 5))
	r.tell("0/0 put k=1: 3 10 10 done", "1/0 get k=: 0 17 17 done there value 1")

	r = played(t, [][]api.Op{{putOp("a", "1"), exportOp(0)}, {putOp("z", "9")}})
	for r.step(0) {
	}
	for r.step(1) {
	}
	r.same()
	if got := r.calls()[1]; string(got.Value) != string(streamOf(t, 4, "a", "1")) || list(shape.Map(r.a)) != "a=1 z=9" {
		t.Fatalf("%s", told(got))
	}
}

// P18.1: where moments do not fall, a call begins not ahead of the end of the one ahead of it, and the last one alone may be not done.
func (r *run) inOrder() {
	r.t.Helper()
	for i, c := range r.clients {
		calls := c.Calls()
		for j, call := range calls {
			switch {
			case call.Client != i || call.Number != j:
				r.t.Fatalf("client %d: %s", i, told(call))
			case !call.Done && (call.Last != -1 || j < len(calls)-1):
				r.t.Fatalf("not done: %s", told(call))
			case call.Done && call.Last < call.First, call.Point != -1 && call.Point < call.First, call.Done && call.Point > call.Last:
				r.t.Fatalf("moments: %s", told(call))
			case j > 0 && call.First < calls[j-1].Last:
				r.t.Fatalf("%s\nbehind %s", told(call), told(calls[j-1]))
			}
		}
	}
}

// oneOrder: the calls that took effect, in the order of their points, answer what a map answers that had these entries at first (T1); the map in the end is the answer.
func (r *run) oneOrder(first []api.Entry) map[string]string {
	r.t.Helper()
	now := map[string]string{}
	for _, e := range first {
		now[string(e.Key)] = string(e.Value)
	}
	calls := slices.DeleteFunc(r.calls(), func(c api.Call) bool { return c.Point < 0 })
	slices.SortFunc(calls, func(a, b api.Call) int { return a.Point - b.Point })
	for i, c := range calls {
		value, there := now[string(c.Op.Key)]
		if i > 0 && c.Point == calls[i-1].Point {
			r.t.Fatalf("one point: %s, %s", told(c), told(calls[i-1]))
		}
		want := api.Call{Client: c.Client, Number: c.Number, Op: c.Op, First: c.First, Last: c.Last, Point: c.Point, Done: true, There: there}
		switch {
		case len(c.Op.Key) == 0 || len(c.Op.Key) > api.MaxKey:
			want.Err, want.There = api.ErrLong, false
		case c.Err == api.ErrFull && c.Op.Kind == api.OpPut && !there:
			want.Err = api.ErrFull
		case c.Op.Kind == api.OpGet:
			want.Value = []byte(value)
		case c.Op.Kind == api.OpPut:
			now[string(c.Op.Key)] = string(c.Op.Value)
		case c.Op.Kind == api.OpDelete:
			delete(now, string(c.Op.Key))
		}
		if c.Done && told(c) != told(want) {
			r.t.Fatalf("%s\nnot %s", told(c), told(want))
		}
	}
	return now
}

// ended: all are done. The tree is sound, and its map is that of the one order.
func (r *run) ended(first []api.Entry, c api.Config) {
	r.t.Helper()
	r.inOrder()
	was := map[string]string{}
	for _, e := range shape.Map(r.a) {
		was[string(e.Key)] = string(e.Value)
	}
	if want := r.oneOrder(first); !maps.Equal(was, want) {
		r.t.Fatalf("%q; not %q\n%s", was, want, all(r.calls()))
	}
	if report := shape.Check(r.a, c); !report.Sound {
		r.t.Fatalf("%+v\n%s", report, all(r.calls()))
	}
	for _, call := range r.calls() {
		r.look(call)
	}
}

// look: what a scan or an export told is within its range, and rises; a stream that is whole can be read.
func (r *run) look(c api.Call) {
	r.t.Helper()
	l := c.Entries
	if c.Op.Kind == api.OpExport && c.Err == api.OK {
		var err api.Errno
		if l, err, _ = stream.Parse(c.Value); err != api.OK {
			r.t.Fatalf("error %d: %s", err, told(c))
		}
	}
	for i, e := range l {
		below := len(c.Op.Hi) > 0 && string(e.Key) >= string(c.Op.Hi)
		if below || string(e.Key) < string(c.Op.Key) || i > 0 && string(e.Key) <= string(l[i-1].Key) || c.Op.Kind == api.OpScan && len(l) > c.Op.Most {
			r.t.Fatalf("%s", told(c))
		}
	}
}

// P18.1, P18.2, T1: two clients, all orders of their first twelve turns, then by turns to the end.
func TestAllOrders(t *testing.T) {
	root := lone("b", "1", "d", "2")
	for _, x := range []struct {
		what  string
		tree  tree
		lists [][]api.Op
	}{
		{"a put and a look", lone("b", "1"), [][]api.Op{{putOp("c", "3")}, {getOp("c"), getOp("c")}}},
		{"two puts of one key", lone(), [][]api.Op{{putOp("k", "1"), getOp("k")}, {putOp("k", "2")}}},
		{"put and taken away", lone("b", "1"), [][]api.Op{{putOp("c", "3"), delOp("c")}, {delOp("c"), getOp("c")}}},
		{"a root in two, and a look along the leaves", root, [][]api.Op{{putOp("c", "3")}, {scanOp("", "", 9), getOp("c")}}},
		{"a root in two, twice", root, [][]api.Op{{putOp("c", "3")}, {putOp("a", "4"), getOp("c")}}},
		{"a root in two, and a snapshot", root, [][]api.Op{{putOp("c", "3"), delOp("b")}, {exportOp(0, 3)}}},
		{"no slot", root.of(1), [][]api.Op{{putOp("c", "3"), putOp("b", "5")}, {delOp("d"), putOp("e", "4")}}},
		{"what is nothing, between", lone("b", "1"), [][]api.Op{{otherOp(0), putOp("c", "3"), getOp("")}, {otherOp(9), scanOp("", "", 0), getOp("c")}}},
	} {
		t.Run(x.what, func(t *testing.T) {
			t.Parallel()
			const turns = 12
			ends := map[string]int{}
			for order := range 1 << turns {
				r := start(t, x.tree, two(), x.lists...)
				first := shape.Map(r.a)
				for i := range turns {
					r.step(order >> i & 1)
				}
				r.same()
				r.inOrder()
				r.oneOrder(first)
				r.finish()
				r.ended(first, two())
				ends[all(r.calls())]++
			}
			if len(ends) < 100 {
				t.Errorf("%d ends", len(ends))
			}
		})
	}
}

func (d *dice) config() api.Config {
	return api.Config{Nodes: d.pick(60, 60, 12, 5, 2), Leaf: 2 + d.below(3), Inner: 3 + d.below(2), Fill: 1, Block: 1 + d.below(5)}
}

// P18.1, P18.2, T1: many clients with operations of all kinds, in any turns; each is held against its machines by themselves, stepped at the same moments.
func TestManyInTurns(t *testing.T) {
	seen := map[string]int{}
	for seed := range 400 {
		d := dice(seed)
		c := d.config()
		var lists [][]api.Op
		for range 1 + d.below(16) {
			lists = append(lists, d.ops(12))
		}
		r := start(t, lone().of(c.Nodes), c, lists...)
		for range 60 {
			for range 25 {
				r.step(d.below(len(lists)))
			}
			r.same()
			r.inOrder()
			r.oneOrder(nil)
		}
		r.finish()
		r.ended(nil, c)
		for i, client := range r.clients {
			if got := len(client.Calls()); got != len(lists[i]) {
				t.Fatalf("%d calls of %d", got, len(lists[i]))
			}
		}
		for _, call := range r.calls() {
			seen[fmt.Sprint(call.Op.Kind, call.Err == api.OK, call.There, len(call.Entries) > 0)]++
		}
	}
	for _, kind := range []string{"1 true true false", "1 true false false", "1 false false false", "2 true true false", "2 true false false", "2 false false false", "3 true true false", "3 true false false", "3 false false false", "4 true false true", "4 true false false", "4 false false false", "5 true false false", "5 false false false"} {
		if seen[kind] < 20 {
			t.Errorf("%s: %d", kind, seen[kind])
		}
	}
}

// T1 of one client's calls: alone, they answer one behind the other what a map answers, scans and exports too.
func TestAlone(t *testing.T) {
	for seed := range 200 {
		d := dice(seed)
		c := d.config()
		c.Nodes = 100
		ops := append(d.ops(60), exportOp(0), scanOp("", "", 99))
		r := start(t, lone().of(c.Nodes), c, ops)
		now := 0
		for ; r.step(0); now++ {
		}
		r.ended(nil, c)
		have := map[string]string{}
		for i, call := range r.calls() {
			if i == 0 && call.First != 0 || i > 0 && call.First != r.calls()[i-1].Last+1 {
				t.Fatalf("%s", told(call))
			}
			switch {
			case call.Err != api.OK:
			case call.Op.Kind == api.OpPut:
				have[string(call.Op.Key)] = string(call.Op.Value)
			case call.Op.Kind == api.OpDelete:
				delete(have, string(call.Op.Key))
			case call.Op.Kind == api.OpScan && list(call.Entries) != list(within(have, call.Op)):
				t.Fatalf("%s; not %s", told(call), list(within(have, call.Op)))
			case call.Op.Kind == api.OpExport:
				want, _, _ := stream.Bytes(within(have, api.Op{Most: 999}), c.Block)
				if string(call.Value) != string(want) {
					t.Fatalf("%s; not %q", told(call), want)
				}
			}
		}
	}
}

// within are a map's entries of a scan's range, by rising keys.
func within(have map[string]string, op api.Op) []api.Entry {
	var l []api.Entry
	for _, key := range slices.Sorted(maps.Keys(have)) {
		if key >= string(op.Key) && (len(op.Hi) == 0 || key < string(op.Hi)) && len(l) < op.Most {
			l = append(l, api.Entry{Key: []byte(key), Value: []byte(have[key])})
		}
	}
	return l
}
