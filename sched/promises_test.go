package sched_test

import (
	"fmt"
	"maps"
	"slices"
	"testing"

	"coppice/api"
	"coppice/sched"
	"coppice/shape"
)

// oneOrder: the calls that took effect, in the order of their points, answer what a map answers that had Start at first; the map behind them is the answer.
func oneOrder(t *testing.T, h api.History) map[string]string {
	t.Helper()
	now := map[string]string{}
	for _, e := range h.Start {
		now[string(e.Key)] = string(e.Value)
	}
	calls := slices.DeleteFunc(slices.Clone(h.Calls), func(c api.Call) bool { return c.Point < 0 })
	slices.SortFunc(calls, func(a, b api.Call) int { return a.Point - b.Point })
	for i, c := range calls {
		value, there := now[string(c.Op.Key)]
		if i > 0 && c.Point == calls[i-1].Point || c.Point < c.First || c.Done && c.Point > c.Last {
			t.Fatalf("points: %s", toldCall(c))
		}
		want := api.Call{Client: c.Client, Number: c.Number, Op: c.Op, First: c.First, Last: c.Last, Point: c.Point, Done: true, There: there}
		switch {
		case len(c.Op.Key) == 0 || len(c.Op.Key) > api.MaxKey:
			want.Err, want.There = api.ErrLong, false
		case c.Err == api.ErrFull && c.Op.Kind == api.OpPut && !there:
			want.Err = api.ErrFull
		case c.Op.Kind == api.OpGet:
			want.Value = []byte(value)
		case c.Op.Kind == api.OpPut:
			now[string(c.Op.Key)] = string(c.Op.Value)
		case c.Op.Kind == api.OpDelete:
			delete(now, string(c.Op.Key))
		}
		if c.Done && toldCall(c) != toldCall(want) {
			t.Fatalf("%s\nnot %s", toldCall(c), toldCall(want))
		}
	}
	return now
}

// sound: P19.3, as the world stands. Was a latch held?
func sound(t *testing.T, w *sched.World, c api.Config) bool {
	t.Helper()
	held := w.Arena().Held()
	if len(held) > 0 {
		if w.Done() {
			t.Fatalf("all is done, and %d held: %s", held, told(w.History()))
		}
		return true
	}
	h := w.History()
	if r := shape.Check(w.Arena(), c); !r.Sound {
		t.Fatalf("%+v: %s", r, told(h))
	}
	was := map[string]string{}
	for _, e := range h.End {
		was[string(e.Key)] = string(e.Value)
	}
	if want := oneOrder(t, h); len(was) != len(h.End) || !maps.Equal(was, want) || len(h.Held) > 0 {
		t.Fatalf("%q; not %q\n%s", was, want, told(h))
	}
	return false
}

// contests are scripts whose clients lay hands on the same keys, leaves and slots.
func contests() map[string]api.Script {
	root := ops(putOp("b", "1"), putOp("d", "2")) // a leaf that is full
	five := nine()
	five.Nodes = 5
	one := nine()
	one.Nodes = 1
	return map[string]api.Script{
		"two puts of one key":          {Config: nine(), Clients: lists(ops(putOp("k", "1"), getOp("k")), ops(putOp("k", "2")))},
		"put and taken away":           {Config: nine(), First: ops(putOp("b", "1")), Clients: lists(ops(putOp("c", "3"), delOp("c")), ops(delOp("c"), getOp("c")))},
		"a root in two, twice":         {Config: nine(), First: root, Clients: lists(ops(putOp("c", "3")), ops(putOp("a", "4"), getOp("c")))},
		"a root in two, and a scan":    {Config: nine(), First: root, Clients: lists(ops(putOp("c", "3"), delOp("b")), ops(scanOp("", "", 9), getOp("c")))},
		"a root in two, and an export": {Config: nine(), First: root, Clients: lists(ops(putOp("c", "3")), ops(exportOp(0, 3, 0, 1)))},
		"few slots":                    {Config: five, First: root, Clients: lists(ops(putOp("c", "3"), putOp("e", "5")), ops(putOp("f", "6"), putOp("a", "4")))},
		"no slot":                      {Config: one, First: root, Clients: lists(ops(putOp("c", "3"), putOp("b", "5")), ops(delOp("d"), putOp("e", "4")))},
		"nothing, between":             {Config: nine(), First: ops(otherOp(1<<40), putOp("b", "1")), Clients: lists(ops(otherOp(0), putOp("c", "3"), getOp("")), ops(otherOp(9), scanOp("", "", 0), getOp("c")))},
	}
}

// P19.3: two clients, all orders of their first ten turns, then by turns to the end: at every step at which no latch is held the tree is sound, and its map that of one order.
func TestSoundInAllOrders(t *testing.T) {
	for what, s := range contests() {
		t.Run(what, func(t *testing.T) {
			t.Parallel()
			const first = 10
			held, ends := 0, map[string]int{}
			for order := range 1 << first {
				w := world(t, s)
				for i := 0; !w.Done(); i++ {
					number := i & 1
					if i < first {
						number = order >> i & 1
					}
					if i > 2000 {
						t.Fatalf("it does not end: %s", told(w.History()))
					}
					if w.Pick(number) && sound(t, w, s.Config) {
						held++
					}
				}
				ends[told(w.History())]++
			}
			if len(ends) < 50 || held < 100 {
				t.Errorf("%d ends, %d steps with a latch held", len(ends), held)
			}
		})
	}
}

// P19.3: many clients, operations of all kinds, any picks.
func TestSoundInAnyOrder(t *testing.T) {
	seen := map[string]int{}
	for seed := range 150 {
		d := dice(seed)
		s := d.script(16, 8)
		w := world(t, s)
		sound(t, w, s.Config)
		// Some are picked more often than others, for a while.
		for round := 0; !w.Done(); round++ {
			if round > 20000 {
				t.Fatalf("it does not end: %s", told(w.History()))
			}
			number := d.below(len(s.Clients))
			for range 1 + d.below(12) {
				if w.Pick(number) && sound(t, w, s.Config) {
					seen["held"]++
				}
			}
		}
		sound(t, w, s.Config)
		for _, c := range w.History().Calls {
			seen[fmt.Sprint(c.Op.Kind, c.Err == api.OK)]++
		}
	}
	for _, what := range []string{"held", "1 true", "1 false", "2 true", "2 false", "3 true", "3 false", "4 true", "4 false", "5 true", "5 false", "0 false", "6 false"} {
		if seen[what] < 10 {
			t.Errorf("%s: %d", what, seen[what])
		}
	}
}

// P19.2: picks that do nothing can be left out: the history is the same one, and so is the tree.
func TestIdlePicks(t *testing.T) {
	count := 0
	for seed := range 200 {
		d := dice(seed)
		s := d.script(5, 3)
		s.Picks = d.picks(d.pick(30, 300, 600), len(s.Clients))
		w, other := world(t, s), world(t, s)
		var busy []int
		for _, number := range s.Picks {
			if w.Pick(number) {
				busy = append(busy, number)
				other.Pick(number)
			} else {
				count++
			}
		}
		if mark(w.Arena()) != mark(other.Arena()) || len(busy) != w.History().Steps {
			t.Fatalf("seed %d: the trees are unlike", seed)
		}
		all, err := sched.Run(s)
		s.Picks = busy
		few, again := sched.Run(s)
		// And more of them, at any place.
		var more []int
		for _, number := range busy {
			more = append(append(more, d.pick(-1, len(s.Clients), 16, 99)), number)
		}
		s.Picks = append(more, -1, -2, 17)
		lots, last := sched.Run(s)
		if want := told(w.History()); err != api.OK || again != api.OK || last != api.OK || told(all) != want || told(few) != want || told(lots) != want || told(other.History()) != want {
			t.Fatalf("seed %d: %s\nnot\n%s", seed, told(few), want)
		}
	}
	if count < 5000 {
		t.Errorf("%d picks did nothing", count)
	}
}

// fairly are picks that stay fair by a window, whoever is wished for.
type fairly struct {
	window int
	last   []int // place of each client's last pick
	picks  []int
}

func newFairly(clients int, window int) *fairly {
	return &fairly{window: window, last: repeat(-1, clients)}
}

// next is a client that must be picked now, as else one would come too late; or the one that is wished for.
func (f *fairly) next(wish int) int {
	number := wish
	order := slices.Clone(f.last)
	slices.Sort(order)
	for i, last := range order {
		if last+f.window <= len(f.picks)+i {
			number = slices.Index(f.last, order[0])
			break
		}
	}
	f.last[number] = len(f.picks)
	f.picks = append(f.picks, number)
	return number
}

// wishes are ways to choose who is picked next, where the window leaves a choice. holder is the client that took a latch last, while one is held; else -1.
func wishes(d *dice) map[string]func(clients int, at int, holder int) int {
	return map[string]func(int, int, int) int{
		"round":            func(clients int, at int, holder int) int { return at % clients },
		"the first":        func(clients int, at int, holder int) int { return 0 },
		"the last":         func(clients int, at int, holder int) int { return clients - 1 },
		"any":              func(clients int, at int, holder int) int { return d.below(clients) },
		"any, for a while": func(clients int, at int, holder int) int { return at / 7 % clients },
		"not who has latch": func(clients int, at int, holder int) int {
			return (max(0, holder) + 1 + at%max(1, clients-1)) % clients
		},
		"who has latch": func(clients int, at int, holder int) int { return max(0, holder) },
	}
}

// crowd is a script of so many clients that put, look for, take away the same few keys.
func crowd(clients int, each int, nodes int) api.Script {
	s := api.Script{Config: api.Config{Nodes: nodes, Leaf: 2, Inner: 3, Fill: 2, Block: 2}, First: ops(putOp("b", "1"), putOp("d", "2"))}
	for i := range clients {
		var l []api.Op
		for j := range each {
			key := string(rune('a' + (i+j)%5))
			l = append(l, []api.Op{putOp(key, fmt.Sprint(i)), delOp(key), scanOp("", "", 99), getOp(key), exportOp(0, 1, 0, -2, 7)}[(i*2+j)%5])
		}
		s.Clients = append(s.Clients, l)
	}
	return s
}

// playFair plays a script till it is done, by picks that are fair by a window, and tells them.
func playFair(t *testing.T, s api.Script, window int, wish func(int, int, int) int) []int {
	t.Helper()
	w, f := world(t, s), newFairly(len(s.Clients), window)
	most := min(sched.Bound(s, window), 1<<20) // none of these scripts needs more, and the test is to end
	holder := -1
	for !w.Done() {
		held := len(w.Arena().Held())
		number := f.next(wish(len(s.Clients), len(f.picks), holder))
		w.Pick(number)
		switch now := len(w.Arena().Held()); {
		case now > held:
			holder = number
		case now == 0:
			holder = -1
		}
		if len(f.picks) > most {
			t.Fatalf("%d picks, and it is not done: %s", len(f.picks), told(w.History()))
		}
	}
	if !fair(f.picks, len(s.Clients), window) || !sched.Fair(f.picks, len(s.Clients), window) {
		t.Fatalf("%d picks, of %d clients, by %d, are not fair", len(f.picks), len(s.Clients), window)
	}
	sound(t, w, s.Config)
	return f.picks
}

// P19.1: picks that are fair by a window, as many as Bound: all is done, whoever is wished for where there is a choice.
func TestAllComeThrough(t *testing.T) {
	d := dice(1)
	for what, wish := range wishes(&d) {
		t.Run(what, func(t *testing.T) {
			for _, x := range []struct{ clients, each, nodes, window int }{
				{1, 2, 5, 1}, {1, 3, 9, 2}, {2, 1, 3, 2}, {2, 2, 5, 2}, {2, 2, 9, 3}, {2, 1, 9, 7}, {3, 1, 9, 3}, {3, 1, 12, 5},
			} {
				s := crowd(x.clients, x.each, x.nodes)
				picks := playFair(t, s, x.window, wish)
				f := newFairly(x.clients, x.window)
				for _, number := range picks {
					f.next(number)
				}
				bound := sched.Bound(s, x.window)
				for len(f.picks) < bound {
					f.next(len(f.picks) % x.clients)
				}
				s.Picks = f.picks
				if h, err := sched.Run(s); err != api.OK || !h.Done || len(h.Held) > 0 || !sched.Fair(s.Picks, x.clients, x.window) || len(s.Picks) != bound {
					t.Fatalf("%+v: %d picks: %s", x, len(s.Picks), told(h))
				}
			}
		})
	}
}

// P19.1: wider windows, and more clients: all is done long ahead of Bound.
func TestAllComeThroughWide(t *testing.T) {
	d := dice(2)
	for what, wish := range wishes(&d) {
		t.Run(what, func(t *testing.T) {
			for _, x := range []struct{ clients, each, nodes, window int }{
				{2, 5, 9, 40}, {2, 3, 20, 1000}, {3, 6, 20, 9}, {4, 6, 20, 100}, {5, 5, 4, 5}, {8, 5, 40, 8}, {16, 3, 60, 16}, {16, 2, 60, 200}, {16, 2, 60, 1000},
			} {
				playFair(t, crowd(x.clients, x.each, x.nodes), x.window, wish)
			}
		})
	}
}

// P19.1 where nobody has anything to wait for: there are no clients, no operations, or those of another kind alone.
func TestNothingToComeThrough(t *testing.T) {
	for clients := range 17 {
		for _, each := range []int{0, 1, 3} {
			s := api.Script{Config: nine(), Clients: idlers(clients, each)}
			for i := range clients * (each + 1) {
				s.Picks = append(s.Picks, i%clients)
			}
			window := max(1, clients)
			h := run(t, s)
			if !h.Done || h.Steps != clients*each || len(s.Picks) > sched.Bound(s, window) || !sched.Fair(s.Picks, clients, window) {
				t.Errorf("%d clients of %d: %s", clients, each, told(h))
			}
		}
	}
}
