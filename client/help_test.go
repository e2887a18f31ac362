package client_test

import (
	"encoding/binary"
	"fmt"
	"slices"
	"strconv"
	"strings"
	"testing"

	"coppice/api"
	"coppice/arena"
	"coppice/client"
	"coppice/stream"
)

// tree is what an arena is to have: how many slots, the number of the root, and the nodes of the slots from 1 on.
type tree struct {
	slots int
	root  int
	nodes []api.Node
}

func texts(l ...string) [][]byte {
	var out [][]byte
	for _, s := range l {
		out = append(out, []byte(s))
	}
	return out
}

// leaf is a leaf of some entries: keys and values by turns.
func leaf(high string, right int, entries ...string) api.Node {
	n := api.Node{Head: api.Head{High: []byte(high), Right: right}}
	for i := 0; i < len(entries); i += 2 {
		n.Keys, n.Values = append(n.Keys, []byte(entries[i])), append(n.Values, []byte(entries[i+1]))
	}
	return n
}

func inner(level int, high string, right int, keys [][]byte, kids ...int) api.Node {
	return api.Node{Head: api.Head{Level: level, High: []byte(high), Right: right}, Body: api.Body{Keys: keys, Kids: kids}}
}

// lone has one leaf.
func lone(entries ...string) tree { return tree{20, 1, []api.Node{leaf("", 0, entries...)}} }

// small has two leaves, the first of which is full, and a root.
func small() tree {
	return tree{20, 3, []api.Node{
		leaf("m", 2, "b", "1", "d", "2"),
		leaf("", 0, "m", "3"),
		inner(1, "", 0, texts("m"), 1, 2),
	}}
}

// tall has three levels, all nodes at its left edge being full.
func tall() tree {
	return tree{20, 9, []api.Node{
		leaf("e", 2, "b", "1", "d", "2"),
		leaf("g", 3, "e", "3"),
		leaf("m", 4, "g", "4"),
		leaf("p", 5, "m", "5"),
		leaf("", 0, "p", "6"),
		inner(1, "m", 7, texts("e", "g"), 1, 2, 3),
		inner(1, "p", 8, nil, 4),
		inner(1, "", 0, nil, 5),
		inner(2, "", 0, texts("m", "p"), 6, 7, 8),
	}}
}

// lost has a root whose only child there is not.
func lost() tree { return tree{20, 1, []api.Node{inner(1, "", 0, nil, 9)}} }

// of is the tree in an arena of so many slots.
func (x tree) of(slots int) tree {
	x.slots = slots
	return x
}

// lay is a new arena that has the tree; no latch is held.
func (x tree) lay(t *testing.T) *arena.Arena {
	t.Helper()
	a, err := arena.New(x.slots)
	if err != api.OK {
		t.Fatalf("New: %d", err)
	}
	for i, n := range x.nodes {
		if i == 0 {
			hold(a, 1)
		} else {
			a.Alloc()
		}
		a.SetHead(i+1, n.Head)
		a.SetBody(i+1, n.Body)
		a.Unlock(i+1, true)
	}
	a.Grow(1, x.root)
	return a
}

// hold takes a latch.
func hold(a *arena.Arena, id int) {
	word, _ := a.Word(id)
	a.Lock(id, word)
}

// replace makes an arena another one, that has slot 1 alone: no other number is a node's any more.
func replace(a *arena.Arena) {
	other, _ := arena.New(1)
	*a = *other
}

// mark is all that an arena tells, as bytes, so that arenas are soon held against one another.
func mark(a *arena.Arena) string {
	b := binary.AppendVarint(nil, int64(a.Left()))
	b = binary.AppendVarint(b, int64(a.Root()))
	for id := 1; id <= a.Used(); id++ {
		word, _ := a.Word(id)
		head, _ := a.Head(id)
		body, _ := a.Body(id)
		b = binary.AppendUvarint(b, word)
		b = binary.AppendVarint(b, int64(head.Level))
		b = binary.AppendVarint(b, int64(head.Right))
		for _, list := range [][][]byte{{head.High}, body.Keys, body.Values} {
			b = binary.AppendUvarint(b, uint64(len(list)))
			for _, text := range list {
				b = append(binary.AppendUvarint(b, uint64(len(text))), text...)
			}
		}
		b = binary.AppendUvarint(b, uint64(len(body.Kids)))
		for _, kid := range body.Kids {
			b = binary.AppendVarint(b, int64(kid))
		}
	}
	return string(b)
}

func getOp(key string) api.Op { return api.Op{Kind: api.OpGet, Key: []byte(key)} }
func putOp(key, value string) api.Op {
	return api.Op{Kind: api.OpPut, Key: []byte(key), Value: []byte(value)}
}
func delOp(key string) api.Op { return api.Op{Kind: api.OpDelete, Key: []byte(key)} }

func scanOp(lo, hi string, most int) api.Op {
	return api.Op{Kind: api.OpScan, Key: []byte(lo), Hi: []byte(hi), Most: most}
}

func exportOp(fail int, takes ...int) api.Op {
	return api.Op{Kind: api.OpExport, Takes: takes, Fail: fail}
}

func otherOp(kind int) api.Op { return api.Op{Kind: api.OpKind(kind), Key: []byte("b")} }

// two is the configuration of most tests: leaves of two entries, inner nodes of three children, blocks of four entries.
func two() api.Config { return api.Config{Nodes: 20, Leaf: 2, Inner: 3, Fill: 2, Block: 4} }

// told is a call in words, all of it: whose, which, the operation; First, Last and Point; how it ended. An empty list is told as one that is nil.
func told(c api.Call) string {
	s := fmt.Sprintf("%d/%d %s: %d %d %d", c.Client, c.Number, toldOp(c.Op), c.First, c.Last, c.Point)
	if c.Done {
		s += " done"
	}
	if c.Err != api.OK {
		s += fmt.Sprint(" error ", int(c.Err))
	}
	if c.There {
		s += " there"
	}
	if len(c.Value) > 0 {
		s += " value " + bare(c.Value)
	}
	if len(c.Entries) > 0 {
		s += " entries " + list(c.Entries)
	}
	return s
}

func toldOp(op api.Op) string {
	kinds := []string{"get", "put", "del", "scan", "export"}
	s := fmt.Sprint("kind ", int(op.Kind))
	if 1 <= op.Kind && op.Kind <= 5 {
		s = kinds[op.Kind-1]
	}
	if len(op.Key)+len(op.Value) > 0 {
		s += " " + bare(op.Key) + "=" + bare(op.Value)
	}
	if len(op.Hi) > 0 {
		s += " below " + bare(op.Hi)
	}
	if op.Most != 0 {
		s += fmt.Sprint(" most ", op.Most)
	}
	if len(op.Takes) > 0 {
		s += fmt.Sprint(" takes ", op.Takes)
	}
	if op.Fail != 0 {
		s += fmt.Sprint(" fail ", op.Fail)
	}
	return s
}

func bare(text []byte) string {
	quoted := strconv.Quote(string(text))
	return quoted[1 : len(quoted)-1]
}

// list tells entries in short: b=1 d=2.
func list(l []api.Entry) string {
	var out []string
	for _, e := range l {
		out = append(out, bare(e.Key)+"="+bare(e.Value))
	}
	return strings.Join(out, " ")
}

// all are calls in words, one a line.
func all(l []api.Call) string {
	var out []string
	for _, c := range l {
		out = append(out, told(c))
	}
	return strings.Join(out, "\n")
}

// is holds a client's calls against words, and whether it is done.
func is(t *testing.T, c *client.Client, done bool, want ...string) {
	t.Helper()
	if got := all(c.Calls()); got != strings.Join(want, "\n") || c.Done() != done {
		t.Fatalf("done %v\n%s\nnot done %v\n%s", c.Done(), got, done, strings.Join(want, "\n"))
	}
}

// steps does so many steps, at moments that rise by one: true each.
func steps(t *testing.T, c *client.Client, from int, count int) {
	t.Helper()
	for i := range count {
		if c.Done() || !c.Step(from+i) {
			t.Fatalf("Step(%d): false: %s", from+i, all(c.Calls()))
		}
	}
}

// play does all that is left, at moments from 0 on, and tells how many steps that took.
func play(t *testing.T, c *client.Client) int {
	t.Helper()
	for now := range 5000 {
		if done := c.Done(); c.Step(now) == done {
			t.Fatalf("Step(%d): %v", now, !done)
		} else if done {
			return now
		}
	}
	t.Fatalf("it does not end: %s", all(c.Calls()))
	return 0
}

// streamOf is the stream of some entries, keys and values by turns.
func streamOf(t *testing.T, block int, entries ...string) []byte {
	t.Helper()
	n := leaf("", 0, entries...)
	var l []api.Entry
	for i := range n.Keys {
		l = append(l, api.Entry{Key: n.Keys[i], Value: n.Values[i]})
	}
	b, err, _ := stream.Bytes(l, block)
	if err != api.OK {
		t.Fatalf("Bytes: %d", err)
	}
	return b
}

// dice are numbers below a bound, the same ones at each run.
type dice uint64

func (d *dice) below(n int) int {
	x := uint64(*d)*6364136223846793005 + 1442695040888963407
	*d = dice(x)
	return int((x >> 33) % uint64(n))
}

// pick is one of some numbers.
func (d *dice) pick(l ...int) int { return l[d.below(len(l))] }

// key is one of some twenty, so few that many are there; seldom one that may not be.
func (d *dice) key() []byte {
	if d.below(40) == 0 {
		return slices.Repeat([]byte("k"), d.pick(0, 65))
	}
	return []byte("abcdefghijklmnopqrst")[d.below(20):][:1]
}

// op is one of any kind.
func (d *dice) op() api.Op {
	switch d.below(12) {
	case 0:
		return otherOp(d.pick(0, 6, -1, 256+1))
	case 1:
		return api.Op{Kind: api.OpScan, Key: d.key(), Hi: d.key(), Most: d.pick(-1, 0, 1, 2, 3, 99)}
	case 2:
		return scanOp("", "", d.pick(1, 3, 99))
	case 3:
		return exportOp(d.pick(0, 0, 0, 1, 2, 3), d.pick(0, 3, 8, 99), d.pick(0, 1, 99), d.pick(0, 9))
	case 4, 5:
		return api.Op{Kind: api.OpGet, Key: d.key()}
	case 6, 7:
		return api.Op{Kind: api.OpDelete, Key: d.key()}
	}
	return api.Op{Kind: api.OpPut, Key: d.key(), Value: strconv.AppendInt(nil, int64(d.below(99)), 10)}
}

func (d *dice) ops(most int) []api.Op {
	var l []api.Op
	for range d.below(most + 1) {
		l = append(l, d.op())
	}
	return l
}
