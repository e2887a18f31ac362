package order_test

import (
	"fmt"
	"slices"
	"strconv"
	"strings"
	"testing"

	"coppice/api"
	"coppice/sched"
)

func getOp(key string) api.Op { return api.Op{Kind: api.OpGet, Key: []byte(key)} }
func putOp(key, value string) api.Op {
	return api.Op{Kind: api.OpPut, Key: []byte(key), Value: []byte(value)}
}
func delOp(key string) api.Op { return api.Op{Kind: api.OpDelete, Key: []byte(key)} }

func scanOp(lo, hi string, most int) api.Op {
	return api.Op{Kind: api.OpScan, Key: []byte(lo), Hi: []byte(hi), Most: most}
}

func exportOp(fail int, takes ...int) api.Op {
	return api.Op{Kind: api.OpExport, Takes: takes, Fail: fail}
}

func otherOp(kind int) api.Op { return api.Op{Kind: api.OpKind(kind), Key: []byte("b")} }

func ops(l ...api.Op) []api.Op          { return l }
func long(n int) string                 { return strings.Repeat("k", n) }
func entry(key, value string) api.Entry { return api.Entry{Key: []byte(key), Value: []byte(value)} }

// entries are told in short: "b=1 d=2". A word without a mark of equality has no value.
func entries(text string) []api.Entry {
	var l []api.Entry
	for _, word := range strings.Fields(text) {
		key, value, _ := strings.Cut(word, "=")
		l = append(l, entry(key, value))
	}
	return l
}

// list tells entries as entries reads them.
func list(l []api.Entry) string {
	var out []string
	for _, e := range l {
		out = append(out, bare(e.Key)+"="+bare(e.Value))
	}
	return strings.Join(out, " ")
}

func bare(text []byte) string {
	quoted := strconv.Quote(string(text))
	return quoted[1 : len(quoted)-1]
}

// done is a call that is done, of some client, with its three moments.
func done(client int, op api.Op, first, last, point int) api.Call {
	return api.Call{Client: client, Op: op, First: first, Last: last, Point: point, Done: true}
}

// begun is a call that is not done.
func begun(client int, op api.Op, first, last, point int) api.Call {
	return api.Call{Client: client, Op: op, First: first, Last: last, Point: point}
}

// at is a call of no moments but its point, as Line, After and Seen look at no other.
func at(point int, op api.Op) api.Call { return api.Call{Op: op, Point: point} }

func there(c api.Call, value string) api.Call {
	c.There, c.Value = true, []byte(value)
	return c
}

func failed(c api.Call, err api.Errno) api.Call {
	c.Err = err
	return c
}

func history(start string, end string, calls ...api.Call) api.History {
	return api.History{Start: entries(start), Calls: calls, End: entries(end)}
}

func toldCall(c api.Call) string {
	s := fmt.Sprintf("%d/%d %s: %d %d %d", c.Client, c.Number, toldOp(c.Op), c.First, c.Last, c.Point)
	if c.Done {
		s += " done"
	}
	if c.Err != api.OK {
		s += fmt.Sprint(" error ", int(c.Err))
	}
	if c.There {
		s += " there"
	}
	if len(c.Value) > 0 {
		s += " value " + bare(c.Value)
	}
	if len(c.Entries) > 0 {
		s += " entries " + list(c.Entries)
	}
	return s
}

func toldOp(op api.Op) string {
	return fmt.Sprintf("kind %d %s=%s below %s most %d takes %v fail %d", op.Kind, bare(op.Key), bare(op.Value), bare(op.Hi), op.Most, op.Takes, op.Fail)
}

// told is a history in words, all of it, a call a line.
func told(h api.History) string {
	out := []string{"start " + list(h.Start)}
	for _, c := range h.Calls {
		out = append(out, toldCall(c))
	}
	return strings.Join(append(out, fmt.Sprintf("%d steps, done %t, held %v", h.Steps, h.Done, h.Held), "end "+list(h.End)), "\n")
}

// copied is a history of which changes do not reach the first one.
func copied(h api.History) api.History {
	h.Start, h.End, h.Held = copiedEntries(h.Start), copiedEntries(h.End), slices.Clone(h.Held)
	h.Calls = slices.Clone(h.Calls)
	for i := range h.Calls {
		c := &h.Calls[i]
		c.Op.Key, c.Op.Value, c.Op.Hi = slices.Clone(c.Op.Key), slices.Clone(c.Op.Value), slices.Clone(c.Op.Hi)
		c.Op.Takes, c.Value, c.Entries = slices.Clone(c.Op.Takes), slices.Clone(c.Value), copiedEntries(c.Entries)
	}
	return h
}

func copiedEntries(l []api.Entry) []api.Entry {
	l = slices.Clone(l)
	for i, e := range l {
		l[i] = api.Entry{Key: slices.Clone(e.Key), Value: slices.Clone(e.Value)}
	}
	return l
}

func run(t *testing.T, s api.Script) api.History {
	t.Helper()
	h, err := sched.Run(s)
	if err != api.OK {
		t.Fatalf("Run: %d", err)
	}
	return h
}

// dice are numbers below a bound, the same ones at each run.
type dice uint64

func (d *dice) below(n int) int {
	x := uint64(*d)*6364136223846793005 + 1442695040888963407
	*d = dice(x)
	return int((x >> 33) % uint64(n))
}

// pick is one of some numbers.
func (d *dice) pick(l ...int) int { return l[d.below(len(l))] }

// key is one of some few, so that many are there, and clients meet; seldom one that may not be.
func (d *dice) key() []byte {
	if d.below(40) == 0 {
		return []byte(long(d.pick(0, 65)))
	}
	return []byte("abcdefghijkl")[d.below(12):][:1]
}

// op is one of any kind.
func (d *dice) op() api.Op {
	switch d.below(12) {
	case 0:
		return otherOp(d.pick(0, 6, -1, 256+1))
	case 1:
		return api.Op{Kind: api.OpScan, Key: d.key(), Hi: d.key(), Most: d.pick(-1, 0, 1, 3, 99, 99, 99)}
	case 2:
		return scanOp("", "", d.pick(1, 3, 99, 99))
	case 3:
		return exportOp(d.pick(0, 0, 0, 1, 2, 3), d.pick(0, 3, 8, 99), d.pick(0, 1, 99), d.pick(0, -9))
	case 4, 5:
		return api.Op{Kind: api.OpGet, Key: d.key()}
	case 6, 7:
		return api.Op{Kind: api.OpDelete, Key: d.key()}
	}
	op := api.Op{Kind: api.OpPut, Key: d.key(), Value: strconv.AppendInt(nil, int64(d.below(99)), 10)}
	if d.below(30) == 0 {
		op.Value = []byte(long(d.pick(0, 256, 257)))
	}
	return op
}

func (d *dice) ops(most int) []api.Op {
	var l []api.Op
	for range d.below(most + 1) {
		l = append(l, d.op())
	}
	return l
}

func (d *dice) config() api.Config {
	leaf := 2 + d.below(3)
	return api.Config{Nodes: d.pick(60, 60, 12, 5, 2, 1), Leaf: leaf, Inner: 3 + d.below(2), Fill: 1 + d.below(leaf), Block: 1 + d.below(5)}
}

// script is one of so many clients and operations at most, whose picks take some clients many times running.
func (d *dice) script(clients int, each int, picks int) api.Script {
	s := api.Script{Config: d.config(), First: d.ops(12)}
	for range 1 + d.below(clients) {
		s.Clients = append(s.Clients, d.ops(each))
	}
	most := 1 + d.below(12)
	for len(s.Picks) < picks {
		s.Picks = append(s.Picks, slices.Repeat([]int{d.below(len(s.Clients))}, 1+d.below(most))...)
	}
	return s
}
