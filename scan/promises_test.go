package scan_test

import (
	"fmt"
	"maps"
	"slices"
	"testing"

	"coppice/api"
	"coppice/descent"
	"coppice/put"
	"coppice/scan"
	"coppice/shape"
)

// scene is a tree, and tasks that are done in it at the same time.
type scene struct {
	what  string
	tree  tree
	tasks []task
}

func scenes() []scene {
	both := lone("b", "1", "d", "2")
	full := both
	full.slots = 1
	all := task{"scan", "", "", 9}
	most := func(count int) task { return task{"scan", "", "", count} }
	from := func(lo string, hi string) task { return task{"scan", lo, hi, 9} }
	set := func(key string) task { return task{"put", key, "9", 0} }
	erase := func(key string) task { return task{"del", key, "", 0} }
	look := func(key string) task { return task{"get", key, "", 0} }
	return []scene{
		{"another value", both, []task{all, set("d")}},
		{"a key more", lone("b", "1"), []task{all, set("c")}},
		{"a key less", both, []task{all, erase("d")}},
		{"the only key", small(), []task{all, erase("m")}},
		{"a key that is not there", both, []task{all, erase("c")}},
		{"a look", small(), []task{all, look("m")}},
		{"a root in two", both, []task{all, set("c")}},
		{"a root in two, and a range that ends at the key between", both, []task{from("", "d"), set("c")}},
		{"a root in two, and a range that begins there", both, []task{from("d", ""), set("c")}},
		{"a root in two, and one key", both, []task{from("c", "d"), set("c")}},
		{"a root in two, and two at most", both, []task{most(2), set("c")}},
		{"no slot for a half", full, []task{all, set("c")}},
		{"the first leaf in two", small(), []task{all, set("c")}},
		{"the first leaf in two, one at most", small(), []task{most(1), set("c")}},
		{"the first leaf in two, three at most", small(), []task{most(3), set("c")}},
		{"the last leaf in two", small().set(2, leaf("", 0, "m", "3", "z", "4")), []task{all, set("n")}},
		{"the last leaf in two, from its midst", small().set(2, leaf("", 0, "m", "3", "z", "4")), []task{from("n", ""), set("n")}},
		{"two leaves turned", small(), []task{all, erase("b"), erase("m")}},
		{"a key comes, one goes", lone("b", "1"), []task{all, set("c"), erase("b")}},
		{"a root in two, and a key of it goes", both, []task{all, set("c"), erase("d")}},
		{"a key goes and comes", small(), []task{from("m", ""), erase("m"), set("m")}},
		{"two scans", lone("b", "1"), []task{all, most(1), set("a")}},
		{"a range that can have nothing", both, []task{from("d", "d"), set("c")}},
	}
}

// world is the scene when each number of a list has said whose turn it is.
func (s scene) world(t *testing.T, turns []int) *world {
	c := two()
	c.Nodes = s.tree.slots
	w := newWorld(t, s.tree, c)
	for _, x := range s.tasks {
		w.hands = append(w.hands, w.hand(x))
	}
	for _, i := range turns {
		w.step(w.hands[i])
	}
	return w
}

// P16.1, P16.2, P16.3: all orders of the steps of two or three machines, each state of the whole being gone on from once. Whatever order it is: each leaf is told as the map had it when it was taken, a scan turns nothing, and nobody waits for ever.
func TestAllOrders(t *testing.T) {
	for _, s := range scenes() {
		t.Run(s.what, func(t *testing.T) {
			t.Parallel()
			seen, ends := map[string]int{}, map[string]int{}
			for waiting := [][]int{nil}; len(waiting) > 0; {
				turns := waiting[len(waiting)-1]
				waiting = waiting[:len(waiting)-1]
				w := s.world(t, turns)
				was, stuck, through := w.all(), true, true
				for i := range s.tasks {
					if i > 0 {
						w = s.world(t, turns)
					}
					through = through && w.hands[i].through
					w.step(w.hands[i])
					now := w.all()
					stuck = stuck && now == was
					if _, known := seen[now]; !known {
						seen[now] = len(seen)
						waiting = append(waiting, append(slices.Clone(turns), i))
					}
				}
				if stuck && !through {
					t.Fatalf("%d: nobody comes on: %s", turns, was)
				}
				if through {
					ends[list(w.hands[0].told)]++
					w.settled()
				}
			}
			if len(seen) < 10 || len(ends) == 0 {
				t.Errorf("%d states, ends %v", len(seen), ends)
			}
			t.Logf("%d states, ends %v", len(seen), ends)
		})
	}
}

// P16.1, alone: of a sound tree that nobody turns a scan tells just the range's part of the map; where most does not end it, by a descent's steps, and four for each leaf more.
func TestAlone(t *testing.T) {
	c := two()
	c.Nodes = 200
	w := newWorld(t, tree{slots: c.Nodes, root: 1}, c)
	for i := range 40 {
		h := w.hand(task{"put", many(2 * (i * 7 % 40)), fmt.Sprint(i), 0})
		for !h.through {
			w.step(h)
		}
	}
	whole := shape.Map(w.a)
	bounds := []string{""}
	for i := range 82 {
		bounds = append(bounds, many(i))
	}
	for _, lo := range bounds {
		for _, hi := range bounds {
			if hi != "" && hi <= lo {
				continue
			}
			for _, most := range []int{1, 3, 99} {
				m := scan.New(w.a, []byte(lo), []byte(hi), most)
				steps := 0
				for through := false; !through; steps++ {
					through, _ = m.Step()
				}
				if want := w.stepsAlone(lo, hi); most == 99 && steps != want {
					t.Fatalf("%q to %q: %d steps; not %d", lo, hi, steps, want)
				}
				var want []api.Entry
				for _, e := range whole {
					if string(e.Key) >= lo && (hi == "" || string(e.Key) < hi) && len(want) < most {
						want = append(want, e)
					}
				}
				if got := answered(m); got != found(list(want)) {
					t.Fatalf("%q to %q, %d: %v; not %s", lo, hi, most, got, list(want))
				}
			}
		}
	}
}

// stepsAlone is how many steps a range takes of which all is wanted.
func (w *world) stepsAlone(lo string, hi string) int {
	steps := 1
	way := descent.New(w.a, []byte(lo), 0)
	for !way.Step() {
		steps++
	}
	for n := w.leafOf(lo); len(n.High) > 0 && (hi == "" || string(n.High) < hi); n = read(w.a, n.Right) {
		steps += 4
	}
	return steps
}

// P16.3: slot by slot and word by word, a scan leaves a tree as it is, latches that others hold too; and it waits for none that it does not come to.
func TestNoTrace(t *testing.T) {
	for _, held := range []int{0, 1, 2, 3, 4, 5, 6, 7, 8} {
		for _, lo := range []string{"", "d", "m", "z"} {
			for _, hi := range []string{"", "e", "p"} {
				a := tall().lay(t)
				if held > 0 {
					hold(a, held)
				}
				was := state(a)
				m := scan.New(a, []byte(lo), []byte(hi), 99)
				for range 60 {
					m.Step()
					m.Fresh()
					m.Answer()
					if got := state(a); got != was {
						t.Fatalf("%q to %q, %d held: %s\nnot %s", lo, hi, held, got, was)
					}
				}
			}
		}
	}
}

// key is one of some thirty, all of which may be: so few that many are there.
func (d *dice) key() string {
	key := append([]byte{byte('a' + d.below(4))}, d.text()...)
	return string(key[:min(2, len(key))])
}

func (d *dice) config() api.Config {
	return api.Config{Nodes: d.pick(40, 40, 40, 12, 5, 2), Leaf: 2 + d.below(3), Inner: 3 + d.below(2), Fill: 2, Block: 4}
}

// task is a scan, a deletion, a put or a look.
func (d *dice) task() task {
	switch d.below(8) {
	case 0, 1, 2:
		return d.scan()
	case 3, 4:
		return task{"del", d.key(), "", 0}
	case 5, 6:
		return task{"put", d.key(), string(d.text()), 0}
	}
	return task{"get", d.key(), "", 0}
}

// scan is one whose bounds are near keys, or are none.
func (d *dice) scan() task {
	x := task{"scan", "", "", d.pick(1, 2, 3, 5, 9, 99, 99, 99, 0)}
	if d.below(2) == 0 {
		x.key = d.key()
	}
	if d.below(2) == 0 {
		x.value = d.key()
	}
	return x
}

// tally counts what became of machines, so that a test of many shows that it saw enough.
type tally struct{ scans, whole, most, none, leaves, full, levels int }

func (x *tally) add(h *hand) {
	switch m := h.machine.(type) {
	case *scan.Machine:
		x.scans++
		switch {
		case len(h.told) == 0:
			x.none++
		case len(h.told) == h.most:
			x.most++
		default:
			x.whole++
		}
	case *put.Machine:
		if _, err := m.Answer(); err == api.ErrFull {
			x.full++
		}
	}
}

// P16.1, P16.2, P16.3: many machines in turns, scans, deletions, puts and looks; all that is promised is held against each step. Where nothing new is begun, all come through.
func TestManyInTurns(t *testing.T) {
	var seen tally
	for seed := range 150 {
		d := dice(seed)
		c := d.config()
		w := newWorld(t, tree{slots: c.Nodes, root: 1}, c)
		for range 2 + d.below(6) {
			w.hands = append(w.hands, w.hand(d.task()))
		}
		for range 2000 {
			i := d.below(len(w.hands))
			h := w.hands[i]
			w.step(h)
			if h.kind == "scan" && h.words.took {
				seen.leaves++
			}
			if h.through {
				seen.add(h)
				w.hands[i] = w.hand(d.task())
			}
		}
		for rounds := 0; slices.ContainsFunc(w.hands, func(h *hand) bool { return !h.through }); rounds++ {
			if rounds > 2000 {
				t.Fatalf("they do not come through: %s", state(w.a))
			}
			for _, h := range w.hands {
				w.step(h)
			}
		}
		seen.levels = max(seen.levels, w.settled().Levels)
	}
	if seen.whole < 1000 || seen.most < 1000 || seen.none < 500 || seen.leaves < 5000 || seen.full < 50 || seen.levels < 3 {
		t.Errorf("%+v", seen)
	}
	t.Logf("%+v", seen)
}

// T3: what a scan that is through told of a key of its range is what the map had there at some moment between its first and its last step; a key that nobody wrote meanwhile is told as it was.
func TestSomeMoment(t *testing.T) {
	changed := 0
	for seed := range 400 {
		d := dice(seed)
		c := two()
		c.Nodes = 60
		w := newWorld(t, tree{slots: c.Nodes, root: 1}, c)
		for range 20 {
			h := w.hand(task{"put", d.key(), string(d.text()), 0})
			for !h.through {
				w.step(h)
			}
		}
		scanning := w.hand(d.scan())
		writing := []*hand{w.hand(d.task()), w.hand(d.task())}
		past, keys := known{maps.Clone(w.effects)}, map[string]bool{}
		for steps := 0; !scanning.through; steps++ {
			if steps > 5000 {
				t.Fatalf("not through: %s", state(w.a))
			}
			w.step(scanning)
			for i, h := range writing {
				if w.step(h); h.through {
					writing[i] = w.hand(d.task())
				}
			}
			past = append(past, maps.Clone(w.effects))
		}
		told := map[string]string{}
		for _, e := range scanning.told {
			told[string(e.Key)] = string(e.Value)
		}
		end := scanning.value
		if len(scanning.told) == scanning.most && scanning.most > 0 {
			end = string(scanning.told[scanning.most-1].Key) + "\x00"
		}
		for _, m := range past {
			for key := range m {
				keys[key] = true
			}
		}
		for key := range keys {
			value, is := told[key]
			if scanning.most == 0 || key < scanning.key || end != "" && key >= end {
				continue
			}
			if !past.had(key, value, is) {
				t.Fatalf("%v: %q is told as %q, %v; it never was so: %q", scanning.task, key, value, is, past)
			}
		}
		if !maps.Equal(past[0], past[len(past)-1]) {
			changed++
		}
	}
	if changed < 100 {
		t.Errorf("%d of the maps were changed meanwhile", changed)
	}
}

// P3: what a machine does hangs on no other machine: several step by step do what each does alone.
func TestMachinesApart(t *testing.T) {
	var all, alone []run
	for _, x := range []tree{lone(), lone("b", "1"), pairs(), small(), tall(), second()} {
		for _, lo := range []string{"", "c", "m"} {
			for _, most := range []int{1, 3, 99} {
				all, alone = append(all, start(t, x, lo, "", most)), append(alone, start(t, x, lo, "", most))
			}
		}
	}
	for range 60 {
		for _, r := range all {
			r.m.Step()
		}
	}
	for i, r := range alone {
		if got := r.finish(); answered(all[i].m) != got || list(all[i].m.Fresh()) != list(r.w.taken) {
			t.Fatalf("%v; alone %v", answered(all[i].m), got)
		}
	}
}
