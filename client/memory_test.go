package client_test

import (
	"slices"
	"strings"
	"testing"

	"coppice/api"
	"coppice/client"
)

const spare = "and more"

// roomy are operations of all kinds whose lists have spare room, in which something stands; so has the list itself.
func roomy() []api.Op {
	room := func(s string) []byte { return []byte(s + spare)[:len(s)] }
	l := []api.Op{
		{Kind: api.OpPut, Key: room("c"), Value: room("9")},
		{Kind: api.OpGet, Key: room("c")},
		{Kind: api.OpScan, Key: room("b"), Hi: room("n"), Most: 9},
		{Kind: api.OpExport, Takes: []int{3, 4, 99, 99}[:2], Fail: 9},
		{Kind: api.OpDelete, Key: room("d"), Hi: room("x"), Value: room("y"), Takes: []int{5, 6, 99}[:2]},
		{Kind: 9, Key: room("k"), Value: room("v"), Hi: room("h"), Takes: []int{7, 99}[:1], Most: 4},
		otherOp(77),
		otherOp(78),
	}
	return l[:6]
}

// spoilOps changes all that its owner can of a list of operations: each text, each number, their spare room, the list, its spare room.
func spoilOps(l []api.Op) {
	l = l[:cap(l)]
	for i := range l {
		spoilOp(l[i])
		l[i] = otherOp(55)
	}
}

func spoilOp(op api.Op) {
	for _, text := range [][]byte{op.Key, op.Value, op.Hi} {
		spoilText(text)
	}
	takes := op.Takes[:cap(op.Takes)]
	for i := range takes {
		takes[i] = 1
	}
}

func spoilText(text []byte) {
	text = text[:cap(text)]
	for i := range text {
		text[i] = '#'
	}
}

func spoilCalls(l []api.Call) {
	for _, c := range l {
		spoilOp(c.Op)
		spoilText(c.Value)
		for i := range c.Entries {
			spoilText(c.Entries[i].Key)
			spoilText(c.Entries[i].Value)
		}
		entries := c.Entries[:cap(c.Entries)]
		for i := range entries {
			entries[i] = api.Entry{Key: []byte("#"), Value: []byte("#")}
		}
	}
	l = l[:cap(l)]
	for i := range l {
		l[i] = api.Call{Client: 99, Op: otherOp(99), Done: true}
	}
}

// plain is how the operations go where nobody changes anything: all calls behind each step.
func plain(t *testing.T) []string {
	t.Helper()
	c := client.New(small().lay(t), two(), 4, roomy())
	out := []string{all(c.Calls())}
	for now := 0; c.Step(now); now++ {
		out = append(out, all(c.Calls()))
	}
	return out
}

// P3: operations that were handed in are not kept, nor changed: whoever changes them later, at whichever step, changes nothing.
func TestHandedIn(t *testing.T) {
	want := plain(t)
	if len(want) < 60 {
		t.Fatalf("%d steps", len(want))
	}
	for at := range want {
		ops := roomy()
		c := client.New(small().lay(t), two(), 4, ops)
		for now := range want {
			if got := all(c.Calls()); got != want[now] {
				t.Fatalf("changed behind %d steps, behind %d:\n%s\nnot\n%s", at, now, got, want[now])
			}
			if now == at {
				untouched(t, ops)
				spoilOps(ops)
			}
			c.Step(now)
		}
	}
}

// untouched: operations are as roomy made them, their spare room too.
func untouched(t *testing.T, ops []api.Op) {
	t.Helper()
	was := roomy()
	was, ops = was[:cap(was)], ops[:cap(ops)]
	for i, op := range ops {
		for j, text := range [][]byte{op.Key, op.Value, op.Hi} {
			other := [][]byte{was[i].Key, was[i].Value, was[i].Hi}[j]
			if string(text[:cap(text)]) != string(other[:cap(other)]) {
				t.Fatalf("operation %d: %q; not %q", i, text[:cap(text)], other[:cap(other)])
			}
		}
		if !slices.Equal(op.Takes[:cap(op.Takes)], was[i].Takes[:cap(was[i].Takes)]) || op.Kind != was[i].Kind || op.Most != was[i].Most || op.Fail != was[i].Fail {
			t.Fatalf("operation %d: %s", i, toldOp(op))
		}
	}
}

// P3: what Calls gives is new memory: whoever changes it, behind each step, changes neither a later answer, nor how the client goes on, nor the arena.
func TestGivenOut(t *testing.T) {
	want := plain(t)
	a, b := small().lay(t), small().lay(t)
	c, other := client.New(a, two(), 4, roomy()), client.New(b, two(), 4, roomy())
	for now := range want {
		early := c.Calls()
		for range 2 {
			spoilCalls(c.Calls())
		}
		if got := all(c.Calls()); got != want[now] || all(early) != want[now] {
			t.Fatalf("behind %d steps:\n%s\nnot\n%s", now, got, want[now])
		}
		c.Step(now)
		other.Step(now)
		if mark(a) != mark(b) || all(early) != want[now] {
			t.Fatalf("behind %d steps the arena, or what was told, is another one", now)
		}
	}
}

// textsOf are all texts of some calls.
func textsOf(l []api.Call) [][]byte {
	var out [][]byte
	for _, c := range l {
		out = append(out, c.Op.Key, c.Op.Value, c.Op.Hi, c.Value)
		for _, e := range c.Entries {
			out = append(out, e.Key, e.Value)
		}
	}
	return out
}

// P3: the lists of one answer lie apart: what is written over one of them, and its spare room, is seen in no other, also where two operations were handed in with the same one.
func TestListsApart(t *testing.T) {
	shared, takes := []byte("b"), []int{3, 4, 5}
	ops := []api.Op{
		{Kind: api.OpPut, Key: shared, Value: shared, Hi: shared, Takes: takes},
		{Kind: api.OpGet, Key: shared, Takes: takes[:2]},
		{Kind: api.OpScan, Key: shared, Hi: []byte("z"), Most: 9},
		{Kind: api.OpExport, Key: shared, Takes: takes},
	}
	c := client.New(small().lay(t), two(), 0, ops)
	play(t, c)
	for at := range textsOf(c.Calls()) {
		l := textsOf(c.Calls())
		var was []string
		for _, text := range l {
			was = append(was, string(text))
		}
		spoilText(l[at])
		for i, text := range l {
			if i != at && string(text) != was[i] {
				t.Fatalf("text %d is %q, as text %d was written over", i, text, at)
			}
		}
	}
	for at := range ops {
		l := c.Calls()
		spoilOp(api.Op{Takes: l[at].Op.Takes})
		for i, call := range l {
			if i != at && !slices.Equal(call.Op.Takes, ops[i].Takes) {
				t.Fatalf("Takes of %d: %d", i, call.Op.Takes)
			}
		}
	}
	// The entries of two scans.
	c = client.New(small().lay(t), two(), 0, []api.Op{scanOp("", "", 9), scanOp("", "", 9)})
	play(t, c)
	l := c.Calls()
	l[0].Entries = append(l[0].Entries[:0], api.Entry{Key: []byte("#")})
	if list(l[1].Entries) != "b=1 d=2 m=3" {
		t.Fatalf("%s", list(l[1].Entries))
	}
}

// Two clients that were handed the same list know nothing of one another; nor do two with the same number.
func TestClientsApart(t *testing.T) {
	ops := roomy()
	a, b := small().lay(t), small().lay(t)
	one, other := client.New(a, two(), 4, ops), client.New(b, two(), 4, ops)
	play(t, one)
	is(t, other, false)
	play(t, other)
	if all(one.Calls()) != all(other.Calls()) || mark(a) != mark(b) || !strings.HasPrefix(all(one.Calls()), "4/0 put c=9: 0 24 16 done\n") {
		t.Fatalf("%s\nnot\n%s", all(one.Calls()), all(other.Calls()))
	}
	untouched(t, ops)
}
