package sched_test

import (
	"slices"
	"testing"

	"coppice/api"
	"coppice/sched"
	"coppice/shape"
)

const spare = "and more"

// roomyOps are operations of all kinds whose lists have spare room, in which something stands; so has the list itself.
func roomyOps() []api.Op {
	room := func(s string) []byte { return []byte(s + spare)[:len(s)] }
	l := []api.Op{
		{Kind: api.OpPut, Key: room("c"), Value: room("9")},
		{Kind: api.OpPut, Key: room("a"), Value: room("8")},
		{Kind: api.OpGet, Key: room("c")},
		{Kind: api.OpScan, Key: room("a"), Hi: room("n"), Most: 9},
		{Kind: api.OpExport, Takes: []int{3, 4, 99, 99}[:2], Fail: 9},
		{Kind: api.OpDelete, Key: room("d"), Hi: room("x"), Value: room("y"), Takes: []int{5, 6, 99}[:2]},
		{Kind: 9, Key: room("k"), Value: room("v"), Hi: room("h"), Takes: []int{7, 99}[:1], Most: 4},
		otherOp(77),
		otherOp(78),
	}
	return l[:7]
}

func roomy() api.Script {
	clients := [][]api.Op{roomyOps(), roomyOps(), many(otherOp(5), 9)}[:2]
	return api.Script{Config: twenty(), First: append([]api.Op{putOp("d", "3"), putOp("b", "1")}, roomyOps()...)[:4], Clients: clients, Picks: []int{0, 1, 99, 0, 1, 98, 97}[:5]}
}

// cells are all that a script's owner can change, in words, spare room too.
func cells(s api.Script) string {
	out := ""
	for _, l := range append(s.Clients[:cap(s.Clients)], s.First) {
		out += "\n"
		for _, op := range l[:cap(l)] {
			op.Key, op.Value, op.Hi, op.Takes = op.Key[:cap(op.Key)], op.Value[:cap(op.Value)], op.Hi[:cap(op.Hi)], op.Takes[:cap(op.Takes)]
			out += toldOp(op) + "; "
		}
	}
	for _, number := range s.Picks[:cap(s.Picks)] {
		out += " " + string(rune('A'+number))
	}
	return out
}

func spoilScript(s api.Script) {
	for _, l := range append(s.Clients[:cap(s.Clients)], s.First) {
		l = l[:cap(l)]
		for i := range l {
			spoilOp(l[i])
			l[i] = otherOp(55)
		}
	}
	clients := s.Clients[:cap(s.Clients)]
	for i := range clients {
		clients[i] = nil
	}
	picks := s.Picks[:cap(s.Picks)]
	for i := range picks {
		picks[i] = 1
	}
}

func spoilOp(op api.Op) {
	for _, text := range [][]byte{op.Key, op.Value, op.Hi} {
		spoilText(text)
	}
	takes := op.Takes[:cap(op.Takes)]
	for i := range takes {
		takes[i] = 1
	}
}

func spoilText(text []byte) {
	text = text[:cap(text)]
	for i := range text {
		text[i] = '#'
	}
}

func spoilEntries(l []api.Entry) {
	l = l[:cap(l)]
	for i := range l {
		spoilText(l[i].Key)
		spoilText(l[i].Value)
		l[i] = entry("#", "#")
	}
}

// spoil changes all that its owner can of a history.
func spoil(h api.History) {
	spoilEntries(h.Start)
	spoilEntries(h.End)
	held := h.Held[:cap(h.Held)]
	for i := range held {
		held[i] = -1
	}
	for _, c := range h.Calls {
		spoilOp(c.Op)
		spoilText(c.Value)
		spoilEntries(c.Entries)
	}
	calls := h.Calls[:cap(h.Calls)]
	for i := range calls {
		calls[i] = api.Call{Client: 99, Op: otherOp(99), Done: true}
	}
}

// plain is how a script goes, by turns, where nobody changes anything: the history behind each pick.
func plain(t *testing.T, s api.Script) []string {
	t.Helper()
	w := world(t, s)
	out := []string{told(w.History())}
	for i := 0; !w.Done(); i++ {
		if i > 1000 {
			t.Fatalf("it does not end: %s", told(w.History()))
		}
		w.Pick(i % 2)
		out = append(out, told(w.History()))
	}
	return out
}

// P3: what New was handed is not changed, its spare room neither, and not kept: whoever changes it behind New, or behind any pick, changes nothing.
func TestHandedIn(t *testing.T) {
	want := plain(t, roomy())
	if len(want) < 120 {
		t.Fatalf("%d picks", len(want))
	}
	for at := 0; at < len(want); at += 3 {
		s := roomy()
		was := cells(s)
		w := world(t, s)
		for i := range want {
			if got := told(w.History()); got != want[i] {
				t.Fatalf("changed behind %d picks, behind %d:\n%s\nnot\n%s", at, i, got, want[i])
			}
			if i == at {
				if cells(s) != was {
					t.Fatalf("%s\nnot\n%s", cells(s), was)
				}
				spoilScript(s)
			}
			w.Pick(i % 2)
		}
	}
}

// P3: no call changes what it is handed, nor its spare room; Run does not keep it.
func TestHandedInAtOnce(t *testing.T) {
	s := roomy()
	was := cells(s)
	sched.Bound(s, 5)
	sched.Fair(s.Picks, 2, 3)
	h, err := sched.Run(s)
	if cells(s) != was || err != api.OK {
		t.Fatalf("%s\nnot\n%s", cells(s), was)
	}
	want := told(h)
	spoilScript(s)
	if told(h) != want {
		t.Fatalf("%s\nnot\n%s", told(h), want)
	}
	again, _ := sched.Run(roomy())
	is(t, again, want)
	s = roomy()
	s.Clients = append(s.Clients, make([][]api.Op, 20)...) // refused
	was = cells(s)
	if _, err := sched.Run(s); err != api.ErrArg || cells(s) != was || sched.Bound(s, 5) != 0 || cells(s) != was {
		t.Fatalf("%d %s", err, cells(s))
	}
}

// P3: what History tells is new memory: whoever changes it, behind each pick, changes neither what is told later, nor what was told ahead, nor the tree, nor how the world goes on.
func TestGivenOut(t *testing.T) {
	want := plain(t, roomy())
	w, other := world(t, roomy()), world(t, roomy())
	for i := range want {
		early := w.History()
		for range 2 {
			spoil(w.History())
		}
		late := w.History()
		spoil(w.History())
		if told(late) != want[i] || told(early) != want[i] || mark(w.Arena()) != mark(other.Arena()) {
			t.Fatalf("behind %d picks:\n%s\nnot\n%s", i, told(late), want[i])
		}
		w.Pick(i % 2)
		other.Pick(i % 2)
		if told(early) != want[i] || told(late) != want[i] {
			t.Fatalf("what was told behind %d picks is another one now:\n%s", i, told(early))
		}
	}
}

// P3: what Run tells is new memory at each call.
func TestGivenOutByRun(t *testing.T) {
	s := roomy()
	s.Picks = slices.Repeat([]int{0, 1}, 200)
	first, _ := sched.Run(s)
	want := told(first)
	second, _ := sched.Run(s)
	spoil(first)
	is(t, second, want)
	third, _ := sched.Run(s)
	is(t, third, want)
}

// textsOf are all texts of a history.
func textsOf(h api.History) [][]byte {
	var out [][]byte
	add := func(l []api.Entry) {
		for _, e := range l {
			out = append(out, e.Key, e.Value)
		}
	}
	add(h.Start)
	add(h.End)
	for _, c := range h.Calls {
		out = append(out, c.Op.Key, c.Op.Value, c.Op.Hi, c.Value)
		add(c.Entries)
	}
	return out
}

// P3: the lists of one answer lie apart: what is written over one of them, and its spare room, is seen in no other, also where clients were handed one list, and where nothing was turned since New.
func TestListsApart(t *testing.T) {
	same := roomyOps()
	for _, picks := range []int{0, 40, 400} {
		w := world(t, api.Script{Config: twenty(), First: same, Clients: lists(same, same)})
		for i := range picks {
			w.Pick(i % 2)
		}
		for at := range textsOf(w.History()) {
			l := textsOf(w.History())
			var was []string
			for _, text := range l {
				was = append(was, string(text))
			}
			spoilText(l[at])
			for i, text := range l {
				if i != at && string(text) != was[i] {
					t.Fatalf("text %d is %q, as text %d was written over", i, text, at)
				}
			}
		}
		h := w.History()
		end, start := list(h.End), list(h.Start)
		spoilEntries(h.Start)
		if list(h.End) != end {
			t.Fatalf("End is %s", list(h.End))
		}
		h = w.History()
		spoilEntries(h.End)
		if list(h.Start) != start {
			t.Fatalf("Start is %s", list(h.Start))
		}
		for at := range h.Calls {
			h := w.History()
			spoilOp(api.Op{Takes: h.Calls[at].Op.Takes})
			for i, c := range h.Calls {
				if i != at && !slices.Equal(c.Op.Takes, same[c.Number].Takes) {
					t.Fatalf("Takes of %s", toldCall(c))
				}
			}
		}
	}
}

// Start stays what it was, also where the arena is turned by others.
func TestStartStays(t *testing.T) {
	w := world(t, small(ops(delOp("b"))))
	a := w.Arena()
	word, _ := a.Word(1)
	a.Lock(1, word)
	a.SetBody(1, api.Body{})
	if got := list(shape.Map(a)); got != "d=3" {
		t.Fatalf("%s", got)
	}
	is(t, w.History(), "start b=1 c=2 d=3", "0 steps, held [1]", "end d=3")
}
