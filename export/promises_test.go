package export_test

import (
	"bytes"
	"fmt"
	"maps"
	"slices"
	"strings"
	"testing"

	"coppice/api"
	"coppice/arena"
	"coppice/export"
	"coppice/pipe"
	"coppice/shape"
	"coppice/stream"
)

// scene is a tree, and tasks that are done in it at the same time.
type scene struct {
	what  string
	tree  tree
	tasks []task
}

func scenes() []scene {
	both := lone("b", "1", "d", "2")
	full := both
	full.slots = 1
	by := func(block int, takes ...int) task { return task{kind: "export", block: block, takes: takes} }
	failing := func(block int, fail int) task { return task{kind: "export", block: block, fail: fail} }
	set := func(key string) task { return task{kind: "put", key: key, value: "9"} }
	erase := func(key string) task { return task{kind: "del", key: key} }
	look := func(key string) task { return task{kind: "get", key: key} }
	return []scene{
		{"another value", both, []task{by(1), set("d")}},
		{"a key more", lone("b", "1"), []task{by(1), set("c")}},
		{"a key more, of which there are none", lone(), []task{by(1), set("c")}},
		{"a key less", both, []task{by(2), erase("d")}},
		{"the only key", small(), []task{by(2), erase("m")}},
		{"a look", small(), []task{by(1), look("m")}},
		{"a root in two", both, []task{by(1), set("c")}},
		{"a root in two, blocks of two", both, []task{by(2), set("c")}},
		{"no slot for a half", full, []task{by(1), set("c")}},
		{"the first leaf in two", small(), []task{by(1), set("c")}},
		{"the first leaf in two, blocks of two", small(), []task{by(2, 3, 0, 7), set("c")}},
		{"the last leaf in two", small().set(2, leaf("", 0, "m", "3", "z", "4")), []task{by(2), set("n")}},
		{"two leaves turned", small(), []task{by(64), erase("b"), erase("m")}},
		{"a key comes, one goes", lone("b", "1"), []task{by(1), set("c"), erase("b")}},
		{"a root in two, and a key of it goes", both, []task{by(2), set("c"), erase("d")}},
		{"a key goes and comes", small(), []task{by(1), erase("m"), set("m")}},
		{"two exports", both, []task{by(1), by(2), erase("b")}},
		{"an export and a scan", small(), []task{by(2), {kind: "scan"}, erase("b")}},
		{"a sink that takes nothing for long", both, []task{by(1, 0, 0, 0, 0, 1, 1), set("c")}},
		{"a sink that fails at once", both, []task{failing(1, 1), set("c")}},
		{"a sink that fails later", small(), []task{failing(1, 2), set("c")}},
		{"a sink that fails in the end", small(), []task{failing(1, 3), erase("b"), erase("m")}},
	}
}

// world is the scene when each number of a list has said whose turn it is.
func (s scene) world(t *testing.T, turns []int) *world {
	c := two()
	c.Nodes = s.tree.slots
	w := newWorld(t, s.tree, c)
	for _, x := range s.tasks {
		w.hands = append(w.hands, w.hand(x))
	}
	for _, i := range turns {
		w.onlyStep(w.hands[i]) // it was held against the promises when it was done first
	}
	return w
}

// P17.1, P17.2, P17.3: all orders of the steps of two or three machines, each state of the whole being gone on from once. Whatever order it is: each leaf is told as the map had it when it was taken, an export turns nothing, and nobody waits for ever.
func TestAllOrders(t *testing.T) {
	for _, s := range scenes() {
		t.Run(s.what, func(t *testing.T) {
			t.Parallel()
			seen, ends := map[string]int{}, map[string]int{}
			for waiting := [][]int{nil}; len(waiting) > 0; {
				turns := waiting[len(waiting)-1]
				waiting = waiting[:len(waiting)-1]
				w := s.world(t, turns)
				was, stuck, through := w.all(), true, true
				for i := range s.tasks {
					if i > 0 {
						w = s.world(t, turns)
					}
					through = through && w.hands[i].through
					w.step(w.hands[i])
					now := w.all()
					stuck = stuck && now == was
					if _, known := seen[now]; !known {
						seen[now] = len(seen)
						waiting = append(waiting, append(slices.Clone(turns), i))
					}
				}
				if stuck && !through {
					t.Fatalf("%d: nobody comes on: %s", turns, was)
				}
				if through {
					ends[list(w.hands[0].told)]++
					w.settled()
				}
			}
			if len(seen) < 10 || len(ends) == 0 {
				t.Errorf("%d states, ends %v", len(seen), ends)
			}
			t.Logf("%d states, ends %v", len(seen), ends)
		})
	}
}

// P17.3, T8: slot by slot and word by word, an export leaves a tree as it is at each step, latches that others hold too, whatever its writer does.
func TestNoTrace(t *testing.T) {
	for _, f := range []mood{allTaken, asTold([]int{3, 0, 1}, 0), asTold(nil, 1), asTold(nil, 2), asTold(nil, 4), always(0, api.OK), always(-1, api.OK), mood(allTaken).at(3, always(5000, api.OK)), mood(allTaken).at(2, always(1, 77))} {
		for held := range 9 {
			for _, block := range []int{0, 1, 2, 3, 64} {
				a := tall().lay(t)
				if held > 0 {
					hold(a, held)
				}
				was := state(a)
				m := export.New(a, block, &moody{mood: f})
				for range 60 {
					m.Step()
					if got := state(a); got != was {
						t.Fatalf("by %d, %d held: %s\nnot %s", block, held, got, was)
					}
				}
			}
		}
	}
	// And others go on behind one that failed, or that nobody steps on any more.
	for steps := range 40 {
		for _, fail := range []int{0, 1, 2, 3} {
			w := newWorld(t, small(), two())
			h := w.hand(task{kind: "export", block: 1, fail: fail})
			for range steps {
				w.step(h)
			}
			w.do(task{kind: "put", key: "c", value: "3"})
			w.do(task{kind: "del", key: "m"})
			w.do(task{kind: "export", block: 2})
			if l, _, _ := stream.Parse(exported(t, w.a, 1)); list(l) != "b=1 c=3 d=2" || w.settled().Entries != 3 {
				t.Fatalf("behind %d steps: %s", steps, list(l))
			}
		}
	}
}

// P17.4, T4: of a tree on which nobody works the bytes are those of the map's stream by block: however the tree came to be, whatever pieces they go by.
func TestAlone(t *testing.T) {
	configs := []api.Config{{Nodes: 400, Leaf: 2, Inner: 3}, {Nodes: 400, Leaf: 3, Inner: 4}, {Nodes: 400, Leaf: 7, Inner: 3}, {Nodes: 400, Leaf: 64, Inner: 64}}
	for _, count := range []int{0, 1, 2, 3, 8, 40, 65} {
		streams := map[int][]byte{}
		for i, c := range configs {
			for _, stride := range []int{1, 7, 11} {
				c.Fill, c.Block = 2, 1
				w := newWorld(t, tree{slots: c.Nodes, root: 1}, c)
				if i%2 == 0 { // keys that go again
					for j := range 30 {
						w.do(task{kind: "put", key: many(5*j) + "x", value: "gone"})
					}
				}
				for j := range count / 2 {
					w.do(task{kind: "put", key: many(3 * j), value: "old"})
				}
				for j := range count { // no count has a part in common with a stride: each number comes once
					number := j * stride % count
					w.do(task{kind: "put", key: many(3 * number), value: fmt.Sprint(number)})
				}
				if i%2 == 0 {
					for j := range 30 {
						w.do(task{kind: "del", key: many(5*j) + "x"})
					}
				}
				if entries := w.settled().Entries; entries != count {
					t.Fatalf("%d entries; not %d", entries, count)
				}
				was := state(w.a)
				for _, block := range []int{1, 2, 3, 8, 64} {
					b := exported(t, w.a, block)
					if want := whole(shape.Map(w.a), block); !bytes.Equal(b, want) {
						t.Fatalf("%d by %d: % x; not % x", count, block, b, want)
					}
					if streams[block] == nil {
						streams[block] = b
					}
					if !bytes.Equal(b, streams[block]) {
						t.Fatalf("%d by %d, in another tree: % x; not % x", count, block, b, streams[block])
					}
				}
				if state(w.a) != was {
					t.Fatalf("%s; not %s", state(w.a), was)
				}
			}
		}
	}
}

// The steps of an export alone: those of a descent, four for each leaf more, and a PUSH for the head, for each leaf by which a block was ended, and for the end.
func TestStepsAlone(t *testing.T) {
	for _, leaves := range [][]int{{0}, {1}, {5}, {2, 2, 2}, {1, 2, 3, 4, 5}, {3, 0, 0, 3}, {64, 64}, {0, 0}} {
		for _, block := range []int{1, 2, 3, 4, 64} {
			steps, all := 1+5+4, 0
			for i, count := range leaves {
				if i > 0 {
					steps += 4
				}
				if last := i == len(leaves)-1; last || (all+count)/block > all/block {
					steps++
				}
				all += count
			}
			m := export.New(row(leaves...).lay(t), block, pipe.NewSink(nil, 0))
			got := 0
			for through := false; !through; got++ {
				through, _ = m.Step()
			}
			if got != steps || how(m).entries != all {
				t.Fatalf("%d by %d: %d steps, %v; not %d", leaves, block, got, how(m), steps)
			}
		}
	}
}

// key is one of some thirty, all of which may be: so few that many are there.
func (d *dice) key() string {
	key := append([]byte{byte('a' + d.below(4))}, d.text()...)
	return string(key[:min(2, len(key))])
}

func (d *dice) config() api.Config {
	return api.Config{Nodes: d.pick(40, 40, 40, 12, 5, 2), Leaf: 2 + d.below(3), Inner: 3 + d.below(2), Fill: 2, Block: 4}
}

// task is an export, a scan, a deletion, a put or a look.
func (d *dice) task() task {
	switch d.below(9) {
	case 0, 1, 2:
		return d.export()
	case 3, 4:
		return task{kind: "del", key: d.key()}
	case 5, 6:
		return task{kind: "put", key: d.key(), value: string(d.text())}
	case 7:
		return task{kind: "scan"}
	}
	return task{kind: "get", key: d.key()}
}

func (d *dice) export() task {
	x := task{kind: "export", block: d.pick(1, 1, 2, 2, 3, 4, 64), fail: d.pick(0, 0, 0, 0, 0, 0, 1, 2, 3, 5)}
	for range d.pick(0, 0, 2, 10, 40) {
		x.takes = append(x.takes, d.pick(0, 1, 3, 8, 15, 99))
	}
	return x
}

// tally counts what became of machines, so that a test of many shows that it saw enough.
type tally struct{ well, none, broken, leaves, levels, blocks int }

func (x *tally) add(h *hand) {
	m, is := h.machine.(*export.Machine)
	switch {
	case !is:
	case m.Answer() != api.OK:
		x.broken++
	case len(h.told) == 0:
		x.none++
	default:
		x.well++
		x.blocks += (len(h.told) + h.block - 1) / h.block
	}
}

// P17.1, P17.2, P17.3: many machines in turns, exports, scans, deletions, puts and looks; all that is promised is held against each step. Where nothing new is begun, all come through.
func TestManyInTurns(t *testing.T) {
	var seen tally
	for seed := range 120 {
		d := dice(seed)
		c := d.config()
		w := newWorld(t, tree{slots: c.Nodes, root: 1}, c)
		for range 2 + d.below(6) {
			w.hands = append(w.hands, w.hand(d.task()))
		}
		for range 2000 {
			i := d.below(len(w.hands))
			h := w.hands[i]
			w.step(h)
			if h.kind == "export" && h.words.took {
				seen.leaves++
			}
			if h.through {
				seen.add(h)
				w.hands[i] = w.hand(d.task())
			}
		}
		for rounds := 0; slices.ContainsFunc(w.hands, func(h *hand) bool { return !h.through }); rounds++ {
			if rounds > 2000 {
				t.Fatalf("they do not come through: %s", state(w.a))
			}
			for _, h := range w.hands {
				w.step(h)
			}
		}
		seen.levels = max(seen.levels, w.settled().Levels)
	}
	if seen.well < 1000 || seen.none < 100 || seen.broken < 500 || seen.leaves < 5000 || seen.blocks < 2000 || seen.levels < 3 {
		t.Errorf("%+v", seen)
	}
	t.Logf("%+v", seen)
}

// P17.2, T3: what an export that is through with OK told of a key is what the map had there at some moment between its first and its last step; a key that nobody wrote meanwhile is told as it was.
func TestSomeMoment(t *testing.T) {
	changed := 0
	for seed := range 300 {
		d := dice(seed)
		c := two()
		c.Nodes = 60
		w := newWorld(t, tree{slots: c.Nodes, root: 1}, c)
		for range 20 {
			w.do(task{kind: "put", key: d.key(), value: string(d.text())})
		}
		x := d.export()
		x.fail = 0
		exporting := w.hand(x)
		writing := []*hand{w.hand(d.task()), w.hand(d.task())}
		past := known{maps.Clone(w.effects)}
		for steps := 0; !exporting.through; steps++ {
			if steps > 5000 {
				t.Fatalf("not through: %s", state(w.a))
			}
			w.step(exporting)
			if exporting.through {
				break // what happens behind its last step does not count
			}
			for i, h := range writing {
				if w.step(h); h.through {
					writing[i] = w.hand(d.task())
				}
			}
			past = append(past, maps.Clone(w.effects))
		}
		l, err, at := stream.Parse(exporting.sink.Bytes())
		if err != api.OK {
			t.Fatalf("error %d at %d", err, at)
		}
		told, keys := map[string]string{}, map[string]int{}
		for _, e := range l {
			told[string(e.Key)] = string(e.Value)
			keys[string(e.Key)]++
		}
		for _, m := range past {
			for key := range m {
				keys[key]++
			}
		}
		for key := range keys {
			if value, is := told[key]; !past.had(key, value, is) {
				t.Fatalf("%v: %q is told as %q, %v; it never was so: %q", exporting.task, key, value, is, past)
			}
		}
		if !maps.Equal(past[0], past[len(past)-1]) {
			changed++
		}
	}
	if changed < 100 {
		t.Errorf("%d of the maps were changed meanwhile", changed)
	}
}

// P3: what a machine does hangs on no other machine: several step by step, each with a sink of its own, do what each does alone.
func TestMachinesApart(t *testing.T) {
	var all, alone []run
	for _, x := range []tree{lone(), lone("b", "1"), small(), tall(), row(1, 2, 3)} {
		a := x.lay(t)
		for _, block := range []int{1, 2, 64, 0} {
			for _, f := range []mood{allTaken, asTold([]int{1, 1}, 0), asTold(nil, 3)} {
				all = append(all, run{t: t, a: a}.next(block, f))
				alone = append(alone, start(t, x, block, f))
			}
		}
	}
	for range 60 {
		for _, r := range all {
			r.m.Step()
		}
	}
	for i, r := range alone {
		if got := r.finish(); how(all[i].m) != got || !slices.Equal(all[i].sink.handed, r.sink.handed) {
			t.Fatalf("%v; alone %v", how(all[i].m), got)
		}
	}
}

// Two machines, one sink: it takes what both hand to it, and each tells what is its own.
func TestOneSink(t *testing.T) {
	a, sink := small().lay(t), pipe.NewSink(nil, 0)
	one, other := export.New(a, 64, sink), export.New(a, 64, sink)
	for through := false; !through; {
		through, _ = one.Step()
		other.Step()
	}
	b := whole(small().entries(), 64)
	twice := strings.Repeat(string(b[:8]), 2) + strings.Repeat(string(b[8:]), 2)
	if string(sink.Bytes()) != twice || how(one) != (ended{api.OK, 3, len(b)}) || how(other) != how(one) {
		t.Fatalf("%v, %v, %q", how(one), how(other), sink.Bytes())
	}
}

// What went out is not the arena's own, nor the machine's: whoever turns a leaf later changes nothing that was taken of it.
func TestTurnedLater(t *testing.T) {
	r := start(t, row(2, 2), 3, allTaken)
	r.on(push + down + adds(along, 2))
	lay(r.a, 1, leaf("k002", 2, "k000", "x", "k001", "y"))
	r.ends(adds(next, 2)+push, api.OK)
	if l, _, _ := stream.Parse(r.sink.took); list(l) != "k000=0 k001=1 k002=2 k003=3" {
		t.Fatalf("%s", list(l))
	}
	// A leaf that was cut in two behind its taking: its Right of then is next, and nothing is told twice.
	r = start(t, row(2, 2).wide(), 1, allTaken)
	r.on(push + down + adds(along, 2) + push)
	halve(r.a, 1, "k001")
	r.ends(adds(next, 2)+push, api.OK)
	// Ahead of it: both halves are gone along.
	r = start(t, row(2, 2).wide(), 1, allTaken)
	r.on(push + down)
	halve(r.a, 1, "k001")
	r.ends(adds(along, 1)+push+adds(next, 1)+push+adds(next, 2)+push, api.OK)
	if l, _, _ := stream.Parse(r.sink.took); list(l) != "k000=0 k001=1 k002=2 k003=3" {
		t.Fatalf("%s", list(l))
	}
}

// wide is the tree with a slot more.
func (x tree) wide() tree {
	x.slots++
	return x
}

// halve makes a leaf two: what is not below the key goes to a new slot, the right brother.
func halve(a *arena.Arena, id int, key string) {
	n := read(a, id)
	at := slices.IndexFunc(n.Keys, func(k []byte) bool { return string(k) >= key })
	fresh, _ := a.Alloc()
	a.SetHead(fresh, n.Head)
	a.SetBody(fresh, api.Body{Keys: n.Keys[at:], Values: n.Values[at:]})
	a.Unlock(fresh, true)
	lay(a, id, api.Node{Head: api.Head{High: []byte(key), Right: fresh}, Body: api.Body{Keys: n.Keys[:at], Values: n.Values[:at]}})
}
