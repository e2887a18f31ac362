package order_test

import (
	"fmt"
	"slices"
	"testing"

	"coppice/api"
	"coppice/order"
	"coppice/sched"
	"coppice/stream"
)

// played hands on histories of Run: clients with operations of all kinds, in any turns, some of them cut off somewhere.
func played(t *testing.T, count int, each func(what string, h api.History)) {
	t.Helper()
	seen := map[string]int{}
	for seed := range count {
		d := dice(seed)
		s := d.script(d.pick(2, 3, 5, 16), d.pick(2, 4, 8), d.pick(20, 60, 300, 2000))
		h := run(t, s)
		if h.Done {
			seen["done"]++
		}
		if len(h.Held) > 0 {
			seen["held"]++
		}
		for _, c := range h.Calls {
			if c.Done {
				seen[fmt.Sprint("kind ", c.Op.Kind, " ", c.Err == api.OK)]++
			} else if c.Point >= 0 {
				seen["not done, of a point"]++
			}
		}
		each(fmt.Sprint("seed ", seed), h)
	}
	enough(t, seen, 5, "done", "held", "not done, of a point", "kind 1 true", "kind 1 false", "kind 2 true", "kind 2 false", "kind 3 true", "kind 3 false", "kind 4 true", "kind 4 false", "kind 5 true", "kind 5 false", "kind 0 false", "kind 6 false")
}

// contests are scripts of two clients that lay hands on the same keys, leaves and slots.
func contests() map[string]api.Script {
	nine := api.Config{Nodes: 9, Leaf: 2, Inner: 3, Fill: 2, Block: 4}
	one := nine
	one.Nodes = 1
	root := ops(putOp("b", "1"), putOp("d", "2")) // a leaf that is full
	lists := func(l ...[]api.Op) [][]api.Op { return l }
	return map[string]api.Script{
		"two puts of one key":          {Config: nine, Clients: lists(ops(putOp("k", "1"), getOp("k")), ops(putOp("k", "2")))},
		"put and taken away":           {Config: nine, First: ops(putOp("b", "1")), Clients: lists(ops(putOp("c", "3"), delOp("c")), ops(delOp("c"), getOp("c")))},
		"a root in two, and a scan":    {Config: nine, First: root, Clients: lists(ops(putOp("c", "3"), delOp("b")), ops(scanOp("", "", 9), getOp("c")))},
		"a root in two, and an export": {Config: nine, First: root, Clients: lists(ops(putOp("c", "3")), ops(exportOp(0, 3, 0, 1)))},
		"no slot":                      {Config: one, First: root, Clients: lists(ops(putOp("c", "3"), putOp("b", "5")), ops(delOp("d"), putOp("e", "4"), scanOp("b", "e", 9)))},
	}
}

// inAllOrders hands on the history of each order of the first turns of two clients, then by turns, cut off somewhere or gone to the end.
func inAllOrders(t *testing.T, each func(what string, h api.History)) {
	t.Helper()
	const first = 10
	for what, s := range contests() {
		ends := map[string]int{}
		for turns := range 1 << first {
			s.Picks = nil
			for i := range []int{14, 30, 400}[turns%3] {
				number := i & 1
				if i < first {
					number = turns >> i & 1
				}
				s.Picks = append(s.Picks, number)
			}
			h := run(t, s)
			ends[told(h)]++
			each(what, h)
		}
		if len(ends) < 50 {
			t.Errorf("%s: %d ends", what, len(ends))
		}
	}
}

// P20.1: of each history of Run Check tells -1 and OK.
func TestRunFollowsOneOrder(t *testing.T) {
	each := func(what string, h api.History) {
		if place, err := order.Check(h); place != -1 || err != api.OK {
			t.Fatalf("%s: %d %d: %s", what, place, err, told(h))
		}
		if end := order.After(h.Start, h.Calls, h.Steps); len(h.Held) == 0 && list(end) != list(h.End) {
			t.Fatalf("%s: behind all %s: %s", what, list(end), told(h))
		}
	}
	played(t, 600, each)
	inAllOrders(t, each)
}

// The whole document's examples 6 to 9.
func TestWholeExamples(t *testing.T) {
	turns := func(l ...int) []int { // a number and how often, and so on
		var out []int
		for i := 0; i < len(l); i += 2 {
			out = append(out, slices.Repeat([]int{l[i]}, l[i+1])...)
		}
		return out
	}
	c := api.Config{Nodes: 20, Leaf: 2, Inner: 3, Fill: 2, Block: 4}
	puts := [][]api.Op{ops(putOp("k", "1")), ops(putOp("k", "2"))}
	looks := [][]api.Op{ops(putOp("k", "1")), ops(getOp("k"))}
	six := run(t, api.Script{Config: c, Clients: puts, Picks: turns(0, 7, 1, 8, 0, 1, 1, 7)})
	seven := run(t, api.Script{Config: c, Clients: puts, Picks: turns(0, 7, 1, 8, 0, 1, 1, 6)})
	eight := run(t, api.Script{Config: c, Clients: looks, Picks: turns(1, 3, 0, 8, 1, 7)})
	for _, h := range []api.History{six, seven, eight} {
		check(t, h, -1, api.OK)
	}
	after(t, six, 15, "")
	after(t, six, 16, "k=1")
	after(t, six, 22, "k=1")
	after(t, six, 23, "k=2")
	after(t, seven, 99, "k=1")
	seen(t, eight, "k=1", "", "", eight.Calls[1].First, eight.Calls[1].Last, true)
	six.Calls[1].There = false
	check(t, six, 1, api.ErrOrderAnswer)
}

// P20.1, the other way about: a history of Run in which an answer, a point or the end is turned is refused.
func TestRunTurned(t *testing.T) {
	seen := map[string]int{}
	played(t, 200, func(what string, h api.History) {
		for place := range h.Calls {
			c := h.Calls[place]
			if c.Point < 0 || !c.Done {
				continue
			}
			turned := copied(h)
			turned.Calls[place].There = !c.There
			check(t, turned, place, api.ErrOrderAnswer)
			turned.Calls[place].Point = c.First - 1
			check(t, turned, place, api.ErrOrderPoint)
			turned.Calls[place].Point = c.Last + 1
			check(t, turned, place, api.ErrOrderPoint)
			seen["call"]++
			if c.Op.Kind == api.OpGet {
				turned = copied(h)
				turned.Calls[place].Value = append(turned.Calls[place].Value, 'x')
				check(t, turned, place, api.ErrOrderAnswer)
				seen["value"]++
			}
		}
		if len(h.Held) == 0 {
			turned := copied(h)
			turned.End = append(turned.End, entry("zz", ""))
			check(t, turned, len(h.Calls), api.ErrOrderAnswer)
			seen["end"]++
		}
	})
	enough(t, seen, 100, "call", "value", "end")
}

// P20.2: what a scan that is done told Seen may say of it.
func TestScansSeen(t *testing.T) {
	got := map[string]int{}
	each := func(what string, h api.History) {
		for _, c := range h.Calls {
			if c.Op.Kind != api.OpScan || !c.Done || c.Err != api.OK || c.Op.Most < 1 {
				continue
			}
			hi := c.Op.Hi
			if len(c.Entries) >= c.Op.Most { // it told of no key behind its last one
				hi = append(slices.Clone(c.Entries[len(c.Entries)-1].Key), 0)
				got["most"]++
			} else {
				got["all"]++
			}
			if !order.Seen(h, c.Entries, c.Op.Key, hi, c.First, c.Last) {
				t.Fatalf("%s: %s: %s", what, toldCall(c), told(h))
			}
			got[turnedLooks(t, h, c, hi)]++
		}
	}
	played(t, 600, each)
	inAllOrders(t, each)
	enough(t, got, 30, "most", "all", "at one moment")
}

// P20.2: a scan between whose leaves two keys are put tells what was there at no one moment, and each key as it was at some.
func TestScanAtNoOneMoment(t *testing.T) {
	s := api.Script{Config: api.Config{Nodes: 20, Leaf: 2, Inner: 3, Fill: 2, Block: 4}, Clients: [][]api.Op{ops(scanOp("", "", 99)), ops(putOp("a", "2"), putOp("f", "2"))}}
	for _, key := range []string{"a", "b", "c", "d", "e", "f"} {
		s.First = append(s.First, putOp(key, "1"))
	}
	got := map[string]int{}
	for first := range 40 {
		s.Picks = slices.Concat(make([]int, first), slices.Repeat([]int{1}, 60), make([]int, 60))
		h := run(t, s)
		c := h.Calls[0]
		if !h.Done || len(c.Entries) != 6 || !order.Seen(h, c.Entries, nil, nil, c.First, c.Last) {
			t.Fatalf("behind %d: %s", first, told(h))
		}
		got[turnedLooks(t, h, c, nil)]++
		for i, e := range c.Entries { // each turned to the other one that the key had, if it had one
			l := copiedEntries(c.Entries)
			l[i].Value = []byte(map[string]string{"1": "2", "2": "1"}[string(e.Value)])
			once := false
			for m := c.First; m <= c.Last; m++ {
				was, _ := find(order.After(h.Start, h.Calls, m), e.Key)
				once = once || was == string(l[i].Value)
			}
			if order.Seen(h, l, nil, nil, c.First, c.Last) != once {
				t.Fatalf("behind %d, %s: %t: %s", first, list(l), !once, told(h))
			}
		}
	}
	enough(t, got, 3, "at one moment", "at no one moment")
}

// turnedLooks holds against Seen what a scan did not tell; and says whether what it told was the map at some one moment.
func turnedLooks(t *testing.T, h api.History, c api.Call, hi []byte) string {
	t.Helper()
	if order.Seen(h, c.Entries, c.Op.Key, hi, c.Last, c.First-1) {
		t.Fatalf("to below from: %s", told(h))
	}
	for i := range c.Entries {
		l := copiedEntries(c.Entries)
		l[i].Value = append(l[i].Value, 'x')
		if order.Seen(h, l, c.Op.Key, hi, c.First, c.Last) {
			t.Fatalf("%s: %s", list(l), told(h))
		}
	}
	for m := c.First; m <= c.Last; m++ {
		now := slices.DeleteFunc(order.After(h.Start, h.Calls, m), func(e api.Entry) bool {
			return string(e.Key) < string(c.Op.Key) || len(hi) > 0 && string(e.Key) >= string(hi)
		})
		if list(now) == list(c.Entries) {
			return "at one moment"
		}
	}
	return "at no one moment"
}

// T3: so of what an export wrote.
func TestExportsSeen(t *testing.T) {
	count := 0
	each := func(what string, h api.History) {
		for _, c := range h.Calls {
			if c.Op.Kind != api.OpExport || !c.Done || c.Err != api.OK {
				continue
			}
			l, err, _ := stream.Parse(c.Value)
			if err != api.OK || !order.Seen(h, l, nil, nil, c.First, c.Last) {
				t.Fatalf("%s: %d %s: %s", what, err, list(l), told(h))
			}
			count++
		}
	}
	played(t, 600, each)
	inAllOrders(t, each)
	if count < 100 {
		t.Errorf("%d exports", count)
	}
}

// oneByOne does calls by hand with a map, in Line's order, and tells what each answers.
func oneByOne(h api.History) []api.Call {
	now := wordsMap(h.Start)
	var out []api.Call
	for _, place := range order.Line(h.Calls) {
		c := h.Calls[place]
		value, there := find(now, c.Op.Key)
		full := c.Err == api.ErrFull && !there // there is room or not: the map does not know
		c.Err, c.There, c.Value = api.OK, there, nil
		switch {
		case len(c.Op.Key) < 1 || len(c.Op.Key) > 64 || c.Op.Kind == api.OpPut && len(c.Op.Value) > 256:
			c.Err, c.There = api.ErrLong, false
		case c.Op.Kind == api.OpPut && full:
			c.Err = api.ErrFull
		case c.Op.Kind == api.OpGet:
			c.Value = []byte(value)
		}
		now = wordsDo(now, c)
		out = append(out, c)
	}
	return out
}

// sameAnswers: did calls that are done answer what they answer one by one?
func sameAnswers(t *testing.T, what string, h api.History) {
	t.Helper()
	for i, c := range oneByOne(h) {
		was := h.Calls[order.Line(h.Calls)[i]]
		if was.Done && (was.Err != c.Err || was.There != c.There || c.Op.Kind == api.OpGet && string(was.Value) != string(c.Value)) {
			t.Fatalf("%s: %s\nnot %s\n%s", what, toldCall(was), toldCall(c), told(h))
		}
	}
}

// P20.3: where Check tells OK, calls done one by one with a map answer what they answered: histories of Run, and others.
func TestOneByOne(t *testing.T) {
	played(t, 200, func(what string, h api.History) { sameAnswers(t, what, h) })
	right := 0
	for seed := range 6000 {
		d := dice(seed)
		h := d.rightHistory()
		if seed%3 > 0 {
			h = d.turned(h)
		}
		if _, err := order.Check(h); err == api.OK {
			sameAnswers(t, fmt.Sprint("seed ", seed), h)
			right++
		}
	}
	if right < 2500 {
		t.Errorf("%d right ones", right)
	}
}

// P20.3: and so do calls that a tree's only client does, in Line's order. A put that found no room changed nothing, and is left out, as there is room now.
func TestOneByOneInATree(t *testing.T) {
	count := 0
	played(t, 200, func(what string, h api.History) {
		s := api.Script{Config: api.Config{Nodes: 400, Leaf: 2, Inner: 3, Fill: 2, Block: 4}, Clients: make([][]api.Op, 1)}
		for _, e := range h.Start {
			s.First = append(s.First, api.Op{Kind: api.OpPut, Key: e.Key, Value: e.Value})
		}
		var was []api.Call
		for _, place := range order.Line(h.Calls) {
			if c := h.Calls[place]; c.Err != api.ErrFull {
				was = append(was, c)
				s.Clients[0] = append(s.Clients[0], c.Op)
			}
		}
		s.Picks = make([]int, 100*len(was))
		again := run(t, s)
		if !again.Done || len(again.Calls) != len(was) {
			t.Fatalf("%s: it does not end: %s", what, told(again))
		}
		for i, c := range again.Calls {
			if o := was[i]; o.Done && (c.Err != o.Err || c.There != o.There || string(c.Value) != string(o.Value)) {
				t.Fatalf("%s: %s\nnot %s\n%s", what, toldCall(c), toldCall(o), told(h))
			}
			count++
		}
		if len(h.Held) == 0 && list(again.End) != list(h.End) {
			t.Fatalf("%s: %s\nnot %s", what, list(again.End), told(h))
		}
	})
	if count < 400 {
		t.Errorf("%d calls", count)
	}
}

// P20.1 (T7): of picks that are fair, and go on to the end.
func TestFairToTheEnd(t *testing.T) {
	for seed := range 40 {
		d := dice(seed)
		s := d.script(6, 6, 0)
		for i := range 4000 {
			s.Picks = append(s.Picks, i%len(s.Clients))
		}
		h := run(t, s)
		if !h.Done || !sched.Fair(s.Picks, len(s.Clients), len(s.Clients)) || len(h.Held) > 0 {
			t.Fatalf("seed %d: it does not end: %s", seed, told(h))
		}
		check(t, h, -1, api.OK)
		after(t, h, h.Steps, list(h.End))
	}
}
