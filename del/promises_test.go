package del_test

import (
	"slices"
	"testing"

	"coppice/api"
	"coppice/del"
	"coppice/put"
)

// scene is a tree, and tasks that are done in it at the same time.
type scene struct {
	what  string
	tree  tree
	tasks []task
}

func scenes() []scene {
	both := lone("b", "1", "d", "2")
	full := both
	full.slots = 1
	erase := func(key string) task { return task{"del", key, ""} }
	look := func(key string) task { return task{"get", key, ""} }
	return []scene{
		{"a key, and a look at it", both, []task{erase("b"), look("b")}},
		{"a key, and a look at another one", both, []task{erase("b"), look("d")}},
		{"a key that is not there, and a look at it", both, []task{erase("c"), look("c")}},
		{"the only key, and a look at it", small(), []task{erase("m"), look("m")}},
		{"the same key twice", both, []task{erase("b"), erase("b")}},
		{"two keys of a leaf", both, []task{erase("b"), erase("d")}},
		{"two keys of two leaves", small(), []task{erase("b"), erase("m")}},
		{"one there, one not", both, []task{erase("b"), erase("c")}},
		{"a key that is put", lone("b", "1"), []task{erase("c"), {"put", "c", "3"}}},
		{"a key that gets another value", both, []task{erase("d"), {"put", "d", "3"}}},
		{"a root in two, the key in the left half", both, []task{erase("b"), {"put", "c", "3"}}},
		{"a root in two, the key between the halves", both, []task{erase("d"), {"put", "c", "3"}}},
		{"a root in two, the key that is put", both, []task{erase("e"), {"put", "e", "3"}}},
		{"a leaf in two, the key between the halves", small(), []task{erase("d"), {"put", "c", "3"}}},
		{"a leaf in two, the key of its brother", small(), []task{erase("m"), {"put", "c", "3"}}},
		{"no slot, unless a key goes", full, []task{erase("d"), {"put", "c", "3"}}},
		{"a key that is put, and a look at it", both, []task{erase("d"), {"put", "d", "3"}, look("d")}},
		{"the same key twice, and a look at it", both, []task{erase("d"), erase("d"), look("d")}},
		{"two keys, and a key that is put", lone("b", "1"), []task{erase("b"), erase("c"), {"put", "c", "3"}}},
		{"three keys of a leaf", lone("b", "1", "c", "2"), []task{erase("b"), erase("c"), erase("d")}},
	}
}

// world is the scene when each number of a list has said whose turn it is.
func (s scene) world(t *testing.T, turns []int) *world {
	c := two()
	c.Nodes = s.tree.slots
	w := newWorld(t, s.tree, c)
	for _, x := range s.tasks {
		w.hands = append(w.hands, w.hand(x))
	}
	for _, i := range turns {
		w.step(w.hands[i])
	}
	return w
}

// P15.1, P15.2: all orders of the steps of two or three machines, each state of the whole being gone on from once. Whatever order it is: each deletion takes effect at once and turns nothing else, a look tells what took effect ahead of it, the tree is sound whenever no latch is held, and nobody waits for ever.
func TestAllOrders(t *testing.T) {
	for _, s := range scenes() {
		t.Run(s.what, func(t *testing.T) {
			t.Parallel()
			seen, ends := map[string]int{}, 0
			for waiting := [][]int{nil}; len(waiting) > 0; {
				turns := waiting[len(waiting)-1]
				waiting = waiting[:len(waiting)-1]
				w := s.world(t, turns)
				was, stuck, through := w.all(), true, true
				for i := range s.tasks {
					if i > 0 {
						w = s.world(t, turns)
					}
					through = through && w.hands[i].through
					w.step(w.hands[i])
					now := w.all()
					stuck = stuck && now == was
					if _, known := seen[now]; !known {
						seen[now] = len(seen)
						waiting = append(waiting, append(slices.Clone(turns), i))
					}
				}
				if stuck && !through {
					t.Fatalf("%d: nobody comes on: %s", turns, was)
				}
				if through {
					ends++
					w.settled()
				}
			}
			if len(seen) < 30 || ends == 0 {
				t.Errorf("%d states, %d ends", len(seen), ends)
			}
			t.Logf("%d states, %d ends", len(seen), ends)
		})
	}
}

// P15.1: between any two steps of a deletion the map, read by descents, has the key ahead of its effect, if it had it, and has it not from then on; all other keys are as they were. Whoever comes to the latch that is held waits.
func TestReadAtEachStep(t *testing.T) {
	keys := []string{"a", "b", "c", "d", "e", "f", "h", "m", "p", "q", "z"}
	waits, reads := 0, 0
	for _, x := range []tree{lone(), lone("b", "1"), lone("b", "1", "d", "2", "e", "3"), small(), tall()} {
		c := two()
		c.Leaf = 3
		for _, key := range keys {
			w := newWorld(t, x, c)
			h := w.hand(task{"del", key, ""})
			for range 20 {
				for _, other := range keys {
					look := w.hand(task{"get", other, ""})
					for range 60 {
						w.step(look)
					}
					reads++
					if !look.through {
						waits++
						if len(w.a.Held()) == 0 {
							t.Fatalf("%q is not read: %s", other, state(w.a))
						}
					}
				}
				w.step(h)
			}
			if !h.through {
				t.Fatalf("%q is not through: %s", key, state(w.a))
			}
		}
	}
	if waits < 50 || reads-waits < 1000 {
		t.Errorf("%d looks, %d of which waited", reads, waits)
	}
}

// P15.2: slot by slot, what a deletion alone leaves of a whole tree: a key that is not there turns nothing, and of one that is there the leaf's body and word alone.
func TestNothingElse(t *testing.T) {
	at := map[string]int{"b": 1, "d": 2, "e": 2, "f": 2, "h": 3, "m": 4, "p": 5, "q": 5}
	for _, key := range []string{"a", "b", "c", "d", "e", "f", "g", "h", "l", "m", "o", "p", "q", "z", "b\x00"} {
		a, was := tall().lay(t), tall().lay(t)
		m := del.New(a, []byte(key))
		for through := false; !through; through, _ = m.Step() {
		}
		if a.Root() != was.Root() || a.Used() != was.Used() || a.Left() != was.Left() || len(a.Held()) > 0 {
			t.Fatalf("%q: %s", key, state(a))
		}
		for id := 1; id <= a.Used(); id++ {
			now, then := read(a, id), read(was, id)
			word, _ := a.Word(id)
			if id != at[key] {
				if told(now) != told(then) || word != 2 {
					t.Fatalf("%q turned %d: %s", key, id, state(a))
				}
				continue
			}
			now.Body, then.Body = api.Body{}, api.Body{}
			if told(now) != told(then) || word != 4 {
				t.Fatalf("%q turned more of %d than its body: %s", key, id, state(a))
			}
		}
		if want := (answer{there: at[key] > 0}); answered(m) != want {
			t.Fatalf("%q: %v", key, answered(m))
		}
	}
}

// key is one of some thirty, all of which may be: so few that many are there.
func (d *dice) key() string {
	key := append([]byte{byte('a' + d.below(4))}, d.text()...)
	return string(key[:min(2, len(key))])
}

func (d *dice) config() api.Config {
	return api.Config{Nodes: d.pick(40, 40, 40, 12, 5, 2), Leaf: 2 + d.below(3), Inner: 3 + d.below(2), Fill: 2, Block: 4}
}

// task is a deletion, a put or a look.
func (d *dice) task() task {
	return task{[]string{"del", "del", "put", "put", "put", "get"}[d.below(6)], d.key(), string(d.text())}
}

// tally counts what became of deletions and puts, so that a test of many shows that it saw enough.
type tally struct{ gone, missing, full, levels int }

func (x *tally) add(h *hand) {
	switch m := h.machine.(type) {
	case *del.Machine:
		if answered(m) == gone {
			x.gone++
		} else {
			x.missing++
		}
	case *put.Machine:
		if _, err := m.Answer(); err == api.ErrFull {
			x.full++
		}
	}
}

// P15.1, P15.2: many machines in turns, deletions, puts and looks; all that is promised is held against each step. Where nothing new is begun, all come through.
func TestManyInTurns(t *testing.T) {
	var seen tally
	for seed := range 150 {
		d := dice(seed)
		c := d.config()
		w := newWorld(t, tree{slots: c.Nodes, root: 1}, c)
		for range 2 + d.below(6) {
			w.hands = append(w.hands, w.hand(d.task()))
		}
		for range 2500 {
			i := d.below(len(w.hands))
			w.step(w.hands[i])
			if w.hands[i].through {
				seen.add(w.hands[i])
				w.hands[i] = w.hand(d.task())
			}
		}
		for rounds := 0; slices.ContainsFunc(w.hands, func(h *hand) bool { return !h.through }); rounds++ {
			if rounds > 2000 {
				t.Fatalf("they do not come through: %s", state(w.a))
			}
			for _, h := range w.hands {
				w.step(h)
			}
		}
		if held := w.a.Held(); len(held) > 0 {
			t.Fatalf("held: %d", held)
		}
		seen.levels = max(seen.levels, w.settled().Levels)
	}
	if seen.gone < 2000 || seen.missing < 2000 || seen.full < 50 || seen.levels < 3 {
		t.Errorf("%+v", seen)
	}
	t.Logf("%+v", seen)
}

// A tree that grows by puts and is emptied by deletions, one behind the other: sound behind each, its leaves being there to the end.
func TestGrownAndEmptied(t *testing.T) {
	for _, c := range []api.Config{
		{Nodes: 2000, Leaf: 2, Inner: 3, Fill: 2, Block: 4},
		{Nodes: 2000, Leaf: 3, Inner: 4, Fill: 2, Block: 4},
		{Nodes: 2000, Leaf: 64, Inner: 64, Fill: 2, Block: 4},
	} {
		for _, next := range []func(i int) int{
			func(i int) int { return i },
			func(i int) int { return 99 - i },
			func(i int) int { return i * 7 % 100 },
		} {
			w := newWorld(t, tree{slots: c.Nodes, root: 1}, c)
			through := func(x task) *hand {
				h := w.hand(x)
				for !h.through {
					w.step(h)
				}
				return h
			}
			for i := range 100 {
				through(task{"put", many(i), "v"})
			}
			full := w.settled()
			for i := range 100 {
				for _, want := range []bool{true, false} {
					if h := through(task{"del", many(next(i)), ""}); h.there != want {
						t.Fatalf("%q: %v", h.task, h.there)
					}
				}
			}
			if empty := w.settled(); empty.Entries != 0 || empty.Nodes != full.Nodes || empty.Levels != full.Levels {
				t.Fatalf("%+v; not %+v without entries", empty, full)
			}
		}
	}
}

// P3: what a machine does hangs on no machine in another tree: several step by step do what each does alone.
func TestMachinesApart(t *testing.T) {
	var all, alone []run
	for _, x := range []tree{lone(), lone("b", "1"), lone("c", "1"), lone("b", "1", "d", "2"), small(), tall()} {
		for _, key := range []string{"b", "d", ""} {
			all, alone = append(all, start(t, x, key)), append(alone, start(t, x, key))
		}
	}
	for range 50 {
		for _, r := range all {
			r.m.Step()
		}
	}
	for i, r := range alone {
		if got := r.finish(); answered(all[i].m) != got || state(all[i].a) != state(r.a) {
			t.Fatalf("%v: %s\nalone %v: %s", answered(all[i].m), state(all[i].a), got, state(r.a))
		}
	}
}
