package put_test

import (
	"fmt"
	"slices"
	"testing"

	"coppice/api"
	"coppice/put"
	"coppice/shape"
)

// scene is a tree, and tasks that are done in it at the same time.
type scene struct {
	what  string
	tree  tree
	tasks []task
}

func scenes() []scene {
	root := lone("b", "1", "d", "2")
	fullTwice := small().set(2, leaf("", 0, "m", "3", "o", "4"))
	return []scene{
		{"an entry more, and a look at it", lone("b", "1"), []task{{"put", "c", "3"}, {"get", "c", ""}}},
		{"another value, and a look at it", lone("b", "1"), []task{{"put", "b", "3"}, {"get", "b", ""}}},
		{"a root in two, and a look at the left half", root, []task{{"put", "c", "3"}, {"get", "c", ""}}},
		{"a root in two, and a look at the right half", root, []task{{"put", "e", "3"}, {"get", "e", ""}}},
		{"a root in two, and a look at an old key", root, []task{{"put", "c", "3"}, {"get", "d", ""}}},
		{"three levels in two, and a look", tall(), []task{{"put", "c", "3"}, {"get", "d", ""}}},
		{"the same key twice", lone("b", "1"), []task{{"put", "k", "1"}, {"put", "k", "2"}}},
		{"the same key twice, a root in two", root, []task{{"put", "c", "3"}, {"put", "c", "4"}}},
		{"a root in two, twice", root, []task{{"put", "c", "3"}, {"put", "a", "4"}}},
		{"a root in two, and then its right half", root, []task{{"put", "c", "3"}, {"put", "e", "4"}}},
		{"a root in two, and few slots", root.of(3), []task{{"put", "c", "3"}, {"put", "a", "4"}}},
		{"a root in two, and two slots", root.of(2), []task{{"put", "c", "3"}, {"put", "a", "4"}}},
		{"a root in two, and no slot", root.of(1), []task{{"put", "c", "3"}, {"put", "a", "4"}}},
		{"two leaves below one node", fullTwice, []task{{"put", "c", "3"}, {"put", "n", "4"}}},
		{"two leaves below a full node", wide().set(2, leaf("t", 3, "m", "3", "o", "4")), []task{{"put", "c", "3"}, {"put", "n", "4"}}},
		{"two leaves below a full node, and few slots", wide().set(2, leaf("t", 3, "m", "3", "o", "4")).of(6), []task{{"put", "c", "3"}, {"put", "n", "4"}}},
		{"a leaf in two, and a deletion", small(), []task{{"put", "c", "3"}, {"del", "d", ""}}},
		{"a key put and taken away", lone("b", "1"), []task{{"put", "c", "3"}, {"del", "c", ""}}},
		{"two puts and a look", lone("b", "1"), []task{{"put", "c", "3"}, {"put", "d", "4"}, {"get", "d", ""}}},
		{"three puts", lone("b", "1"), []task{{"put", "c", "3"}, {"put", "d", "4"}, {"put", "c", "5"}}},
	}
}

// world is the scene when each number of a list has said whose turn it is.
func (s scene) world(t *testing.T, turns []int) *world {
	c := two()
	c.Nodes = s.tree.slots
	w := newWorld(t, s.tree, c, true)
	for _, x := range s.tasks {
		w.hands = append(w.hands, w.hand(x))
	}
	for _, i := range turns {
		w.step(w.hands[i])
	}
	return w
}

// P14.1 to P14.4: all orders of the steps of two or three machines, each state of the whole being gone on from once. Whatever order it is: each put takes effect at once, a look tells what took effect ahead of it, the tree is sound whenever no latch is held, and nobody waits for ever.
func TestAllOrders(t *testing.T) {
	for _, s := range scenes() {
		t.Run(s.what, func(t *testing.T) {
			t.Parallel()
			seen, ends := map[string]int{}, 0
			for waiting := [][]int{nil}; len(waiting) > 0; {
				turns := waiting[len(waiting)-1]
				waiting = waiting[:len(waiting)-1]
				w := s.world(t, turns)
				was, stuck, through := w.all(), true, true
				for i := range s.tasks {
					if i > 0 {
						w = s.world(t, turns)
					}
					through = through && w.hands[i].through
					w.step(w.hands[i])
					now := w.all()
					stuck = stuck && now == was
					if _, known := seen[now]; !known {
						if mark(w.a) != mark(w.twin) {
							t.Fatalf("%d: %s\nnot %s", turns, state(w.a), state(w.twin))
						}
						seen[now] = len(seen)
						waiting = append(waiting, append(slices.Clone(turns), i))
					}
				}
				if stuck && !through {
					t.Fatalf("%d: nobody comes on: %s", turns, was)
				}
				if through {
					ends++
					w.settled()
				}
			}
			if len(seen) < 50 || ends == 0 {
				t.Errorf("%d states, %d ends", len(seen), ends)
			}
			t.Logf("%d states, %d ends", len(seen), ends)
		})
	}
}

// P14.1: between any two steps of a put the map, read by descents, is without the value ahead of its effect, and has it from then on; all other keys are as they were. Whoever comes to the latch that is held waits.
func TestReadAtEachStep(t *testing.T) {
	waits, reads := 0, 0
	for _, x := range []tree{lone(), lone("b", "1"), lone("b", "1", "d", "2"), small(), wide(), tall(), wide().of(5), wide().of(6), wide().of(4)} {
		for _, key := range []string{"a", "b", "c", "d", "e", "m", "z"} {
			w := newWorld(t, x, api.Config{Nodes: x.slots, Leaf: 2, Inner: 3, Fill: 2, Block: 4}, false)
			for h := w.hand(task{"put", key, "9"}); !h.through; w.step(h) {
				for _, other := range []string{"a", "b", "c", "d", "e", "m", "p", "t", "z"} {
					look := w.hand(task{"get", other, ""})
					for range 60 {
						w.step(look)
					}
					reads++
					if !look.through {
						waits++
						if len(w.a.Held()) == 0 {
							t.Fatalf("%q is not read: %s", other, state(w.a))
						}
					}
				}
			}
		}
	}
	if waits < 500 || reads-waits < 1000 {
		t.Errorf("%d looks, %d of which waited", reads, waits)
	}
}

// key is one of some forty, all of which may be: so few that many are there.
func (d *dice) key() string {
	key := append([]byte{byte('a' + d.below(6))}, d.text()...)
	return string(key[:min(2, len(key))])
}

func (d *dice) config() api.Config {
	return api.Config{Nodes: d.pick(40, 40, 40, 12, 5, 2), Leaf: 2 + d.below(3), Inner: 3 + d.below(2), Fill: 2, Block: 4}
}

// task is a put, mostly, a look or a deletion.
func (d *dice) task() task {
	return task{[]string{"put", "put", "put", "get", "get", "del"}[d.below(6)], d.key(), string(d.text())}
}

// tally counts what became of puts, so that a test of many shows that it saw enough.
type tally struct{ more, other, full, levels int }

func (x *tally) add(h *hand) {
	if h.kind != "put" {
		return
	}
	switch got := answered(h.put); {
	case got == had:
		x.other++
	case got == fresh:
		x.more++
	case got.err == api.ErrFull:
		x.full++
	}
}

// P14.1 to P14.4: many machines in turns, puts, looks and deletions; all that is promised is held against each step. Where nothing new is begun, all come through.
func TestManyInTurns(t *testing.T) {
	var seen tally
	for seed := range 150 {
		d := dice(seed)
		c := d.config()
		w := newWorld(t, tree{slots: c.Nodes, root: 1}, c, false)
		for range 2 + d.below(6) {
			w.hands = append(w.hands, w.hand(d.task()))
		}
		for range 1200 {
			i := d.below(len(w.hands))
			w.step(w.hands[i])
			if w.hands[i].through {
				seen.add(w.hands[i])
				w.hands[i] = w.hand(d.task())
			}
		}
		for rounds := 0; slices.ContainsFunc(w.hands, func(h *hand) bool { return !h.through }); rounds++ {
			if rounds > 2000 {
				t.Fatalf("they do not come through: %s", state(w.a))
			}
			for _, h := range w.hands {
				w.step(h)
			}
		}
		if held := w.a.Held(); len(held) > 0 {
			t.Fatalf("held: %d", held)
		}
		seen.levels = max(seen.levels, w.settled().Levels)
	}
	if seen.more < 1000 || seen.other < 1000 || seen.full < 50 || seen.levels < 4 {
		t.Errorf("%+v", seen)
	}
}

// Trees that grow by one put behind the other, by rising keys, falling ones and others: sound behind each; alone, a put leaves no node that nobody above knows, and no slot that is on no chain.
func TestGrown(t *testing.T) {
	for _, c := range []api.Config{
		{Nodes: 2000, Leaf: 2, Inner: 3, Fill: 2, Block: 4},
		{Nodes: 2000, Leaf: 3, Inner: 4, Fill: 2, Block: 4},
		{Nodes: 2000, Leaf: 64, Inner: 64, Fill: 2, Block: 4},
	} {
		for _, next := range []func(i int) int{
			func(i int) int { return i },
			func(i int) int { return 139 - i },
			func(i int) int { return i * 9 % 140 },
			func(i int) int { return i % 70 * 2 },
		} {
			w := newWorld(t, tree{slots: c.Nodes, root: 1}, c, false)
			for i := range 140 {
				h := w.hand(task{"put", many(next(i)), fmt.Sprint(i)})
				for !h.through {
					w.step(h)
				}
				if got := answered(h.put); got.err != api.OK {
					t.Fatalf("%v", got)
				}
			}
			r := w.settled()
			kids := 0
			for id := 1; id <= w.a.Used(); id++ {
				kids += len(read(w.a, id).Kids)
			}
			if r.Nodes != w.a.Used() || kids != r.Nodes-1 || r.Entries != len(w.effects) {
				t.Fatalf("%+v, %d slots, %d kids", r, w.a.Used(), kids)
			}
		}
	}
}

// P14.2: a put that is refused, beside others: where no slot is left, keys that are there get other values, and no other key comes in where there is no room.
func TestFullTree(t *testing.T) {
	for slots := 1; slots <= 12; slots++ {
		w := newWorld(t, tree{slots: slots, root: 1}, api.Config{Nodes: slots, Leaf: 2, Inner: 3, Fill: 2, Block: 4}, false)
		full := 0
		for i := range 60 {
			h := w.hand(task{"put", many(i * 37 % 60), fmt.Sprint(i)})
			was := state(w.a)
			for !h.through {
				w.step(h)
			}
			if answered(h.put).err == api.ErrFull {
				full++
				if state(w.a) != was {
					t.Fatalf("%s\nfrom %s", state(w.a), was)
				}
			}
			w.settled()
		}
		if full < 60-2*slots || w.a.Left() > 0 {
			t.Errorf("%d slots: %d were refused, %d slots are left", slots, full, w.a.Left())
		}
		for _, e := range shape.Map(w.a) {
			h := w.hand(task{"put", string(e.Key), "other"})
			for !h.through {
				w.step(h)
			}
			if got := answered(h.put); got != had {
				t.Fatalf("%q: %v", e.Key, got)
			}
		}
	}
}

// P14.4: a machine gives a latch back within 8 of its steps, whatever others do meanwhile: here they hold all other latches.
func TestOneLatch(t *testing.T) {
	for _, x := range []tree{lone(), lone("b", "1", "d", "2"), small(), wide(), tall(), wide().of(5), wide().of(4), tall().of(11)} {
		for steps := range 120 {
			a := x.lay(t)
			m := put.New(a, two(), []byte("c"), []byte("9"))
			for range steps {
				m.Step()
			}
			mine := a.Held()
			if len(mine) == 0 {
				continue
			}
			for id := 1; id <= a.Used(); id++ {
				hold(a, id)
			}
			for left := 8; ; left-- {
				if left == 0 {
					t.Fatalf("behind %d steps it holds %d for 8 more: %s", steps, mine, state(a))
				}
				m.Step()
				held := a.Held()
				if !slices.ContainsFunc(mine, func(id int) bool { return slices.Contains(held, id) }) {
					break
				}
			}
		}
	}
}

// P3: what a machine does hangs on no machine in another tree: several step by step do what each does alone.
func TestMachinesApart(t *testing.T) {
	trees := []tree{lone(), lone("b", "1", "d", "2"), small(), wide(), tall(), wide().of(5), lone("c", "1")}
	var all, alone []run
	for _, x := range trees {
		all, alone = append(all, start(t, x, two(), "c", "9")), append(alone, start(t, x, two(), "c", "9"))
	}
	for range 100 {
		for _, r := range all {
			r.m.Step()
		}
	}
	for i, r := range alone {
		if got := r.finish(); answered(all[i].m) != got || state(all[i].a) != state(r.a) {
			t.Fatalf("%v: %s\nalone %v: %s", answered(all[i].m), state(all[i].a), got, state(r.a))
		}
	}
}
