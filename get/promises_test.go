package get_test

import (
	"bytes"
	"fmt"
	"maps"
	"slices"
	"testing"

	"coppice/api"
	"coppice/arena"
	"coppice/get"
	"coppice/shape"
)

// inMap is what the map of the leaves has for a key.
func inMap(t *testing.T, a *arena.Arena, key string) answer {
	t.Helper()
	var out []answer
	for _, e := range shape.Map(a) {
		if string(e.Key) == key {
			out = append(out, found(string(e.Value)))
		}
	}
	switch len(out) {
	case 0:
		return nothing
	case 1:
		return out[0]
	}
	t.Fatalf("%q stands in the leaves %d times: %s", key, len(out), state(a))
	return nothing
}

// inEffects is what the writes that took effect left for a key.
func inEffects(effects map[string]string, key string) answer {
	if value, there := effects[key]; there {
		return found(value)
	}
	return nothing
}

// settled holds a tree in which no latch is held against the writes that took effect.
func settled(t *testing.T, a *arena.Arena, c api.Config, effects map[string]string) api.Report {
	t.Helper()
	r := shape.Check(a, c)
	if !r.Sound {
		t.Fatalf("%+v: %s", r, state(a))
	}
	was := map[string]string{}
	for _, e := range shape.Map(a) {
		was[string(e.Key)] = string(e.Value)
	}
	if !maps.Equal(was, effects) {
		t.Fatalf("the leaves have %q; not %q", was, effects)
	}
	return r
}

// key is one of some forty, all of which may be: so few that many are there.
func (d *dice) key() string {
	key := append([]byte{byte('a' + d.below(6))}, d.text()...)
	return string(key[:min(2, len(key))])
}

// begin lets a writer that is idle begin to write something.
func (d *dice) begin(w *writer) {
	if d.below(3) == 0 {
		w.del(d.key())
	} else {
		w.put(d.key(), string(d.text()))
	}
}

func (d *dice) config() api.Config {
	return api.Config{Nodes: d.pick(40, 40, 40, 12), Leaf: 2 + d.below(3), Inner: 3 + d.below(2), Fill: 2, Block: 4}
}

// In sound trees that were grown by puts and deletions each key that is there is answered with its value, each other one with nothing.
func TestAlone(t *testing.T) {
	levels, there, right := map[int]int{}, 0, 0
	for seed := range 200 {
		d := dice(seed)
		c, effects := d.config(), map[string]string{}
		a := arenaOf(t, c.Nodes)
		w := newWriter(a, c, effects)
		for range d.below(60) {
			d.begin(w)
			w.finish()
		}
		r := settled(t, a, c, effects)
		levels[r.Levels]++
		was := state(a)
		keys := slices.Sorted(maps.Keys(effects))
		for range 20 {
			keys = append(keys, d.key())
		}
		for _, key := range keys {
			m := get.New(a, []byte(key))
			steps, through, took := 0, false, false
			for !through && steps <= 1+4*r.Nodes {
				through, took = m.Step()
				steps++
			}
			if got := answered(m); !took || got != inEffects(effects, key) || got != inMap(t, a, key) || m.Again() > 0 {
				t.Fatalf("%q: %v, behind %d steps: %s", key, got, steps, was)
			}
			if answered(m).there {
				there++
			}
			right += m.Right()
		}
		if state(a) != was {
			t.Fatalf("turned: %s\nfrom %s", state(a), was)
		}
	}
	if len(levels) < 3 || there < 1000 || right < 10 {
		t.Errorf("levels %v, %d there, %d to the right", levels, there, right)
	}
}

// seeker is a machine and what it seeks.
type seeker struct {
	m   *get.Machine
	key string
}

func (d *dice) seeker(a *arena.Arena) seeker {
	key := d.key()
	return seeker{get.New(a, []byte(key)), key}
}

// tally counts what machines met, so that a test of many shows that it saw enough.
type tally struct{ there, missing, again, right int }

func (x *tally) add(m *get.Machine) {
	if answered(m).there {
		x.there++
	} else {
		x.missing++
	}
	x.again, x.right = x.again+m.Again(), x.right+m.Right()
}

// atItsMoment holds an answer against the map, at the step at which the machine took effect (P13.1).
func atItsMoment(t *testing.T, a *arena.Arena, effects map[string]string, x seeker, took bool) {
	t.Helper()
	got := answered(x.m)
	if !took || got != inMap(t, a, x.key) || got != inEffects(effects, x.key) {
		t.Fatalf("%q: %v, took effect: %v; by the writes %v: %s", x.key, got, took, inEffects(effects, x.key), state(a))
	}
}

// P13.1, P13.2: many machines in turns, while several put and delete: each answer is the map's at its moment, and no step of theirs turns anything. Where the writers stop, all come through.
func TestManyInTurns(t *testing.T) {
	var seen tally
	for seed := range 150 {
		d := dice(seed)
		c, effects := d.config(), map[string]string{}
		a := arenaOf(t, c.Nodes)
		writers := make([]*writer, 1+d.below(4))
		for i := range writers {
			writers[i] = newWriter(a, c, effects)
		}
		all := make([]seeker, 1+d.below(5))
		for i := range all {
			all[i] = d.seeker(a)
		}
		for range 900 {
			if d.below(3) > 0 {
				w := writers[d.below(len(writers))]
				if w.idle() {
					d.begin(w)
				}
				w.step()
				continue
			}
			i, was := d.below(len(all)), state(a)
			through, took := all[i].m.Step()
			if through {
				atItsMoment(t, a, effects, all[i], took)
				seen.add(all[i].m)
				all[i] = d.seeker(a)
			} else if took || answered(all[i].m) != nothing {
				t.Fatalf("%q, on its way: took effect: %v; %v", all[i].key, took, answered(all[i].m))
			}
			if now := state(a); now != was {
				t.Fatalf("a step turned %s\nto %s", was, now)
			}
		}
		for slices.ContainsFunc(writers, func(w *writer) bool { return !w.idle() }) {
			for _, w := range writers {
				w.step()
			}
		}
		r := settled(t, a, c, effects)
		for _, x := range all {
			through, took := false, false
			for steps := 0; !through; steps++ {
				if steps > 4+1+4*r.Nodes {
					t.Fatalf("%q: not through: %s", x.key, state(a))
				}
				through, took = x.m.Step()
			}
			atItsMoment(t, a, effects, x, took)
			seen.add(x.m)
		}
	}
	if seen.there < 500 || seen.missing < 500 || seen.again < 200 || seen.right < 100 {
		t.Errorf("%+v", seen)
	}
}

// scene is a small tree and a write in it, which takes so many steps, and takes effect at one of them.
type scene struct {
	what          string
	first         []string // keys that are put ahead, with values
	write         func(*writer)
	steps, effect int
	keys          []string // that are looked up beside it
}

func scenes() []scene {
	return []scene{
		{"an entry more", []string{"b", "2"}, func(w *writer) { w.put("c", "3") }, 8, 8, []string{"b", "c", "d"}},
		{"another value", []string{"b", "2", "c", "1"}, func(w *writer) { w.put("c", "3") }, 8, 8, []string{"b", "c", "d"}},
		{"an entry less", []string{"b", "2", "c", "1"}, func(w *writer) { w.del("c") }, 8, 8, []string{"b", "c", "d"}},
		{"no entry less", []string{"b", "2", "d", "4"}, func(w *writer) { w.del("c") }, 5, 5, []string{"b", "c", "d"}},
		{"a split and a root", []string{"b", "2", "d", "4"}, func(w *writer) { w.put("c", "3") }, 24, 13, []string{"b", "c", "d"}},
		{"a split below a root", []string{"b", "2", "d", "4", "e", "5", "f", "6"}, func(w *writer) { w.put("ea", "3") }, 25, 17, []string{"d", "e", "ea", "f"}},
	}
}

// lay is the scene's tree, by writes that are done.
func (s scene) lay(t *testing.T) (*arena.Arena, *writer) {
	t.Helper()
	a := arenaOf(t, 9)
	w := newWriter(a, api.Config{Nodes: 9, Leaf: 2, Inner: 3, Fill: 2, Block: 4}, map[string]string{})
	for i := 0; i < len(s.first); i += 2 {
		w.put(s.first[i], s.first[i+1])
		w.finish()
	}
	s.write(w)
	return a, w
}

// times calls a function with each rising list of so many numbers from 0 to most.
func times(count, most int, do func([]int)) {
	list := make([]int, count)
	var fill func(i, least int)
	fill = func(i, least int) {
		if i == count {
			do(list)
			return
		}
		for n := least; n <= most; n++ {
			list[i] = n
			fill(i+1, n)
		}
	}
	fill(0, 0)
}

// beside does the look's step i behind at[i] steps of the write, and, when that list ends, a step of each by turns, till the look is through. It tells how many steps of the write that was behind, and whether the look took effect there.
func (s scene) beside(m *get.Machine, w *writer, at []int) (int, bool) {
	done := 0
	for i := 0; ; i++ {
		until := done + 1
		if i < len(at) {
			until = at[i]
		}
		for ; done < min(until, s.steps); done++ {
			w.step()
		}
		if through, took := m.Step(); through {
			return done, took
		}
	}
}

// P13.1: a look beside a write, in all orders of the write's steps and the look's first ones: the look answers what was there ahead of the write just if it took effect ahead of it.
func TestAllOrders(t *testing.T) {
	for _, s := range scenes() {
		t.Run(s.what, func(t *testing.T) {
			a, w := s.lay(t)
			before := maps.Clone(w.effects)
			if steps := w.finish(); steps != s.steps {
				t.Fatalf("%d steps: %s", steps, state(a))
			}
			after, first, ways := w.effects, 5, 2
			if s.steps > 8 { // a split: it takes long, so one step of the look less, and it may lead to the right
				first, ways = 4, 4
			} else if maps.Equal(before, after) {
				ways = 1
			}
			seen := map[string]int{}
			for _, key := range s.keys {
				times(first, s.steps, func(at []int) {
					a, w := s.lay(t)
					m := get.New(a, []byte(key))
					done, took := s.beside(m, w, at)
					want := inEffects(before, key)
					if done >= s.effect {
						want = inEffects(after, key)
					}
					if got := answered(m); !took || got != want || got != inMap(t, a, key) {
						t.Fatalf("%q at %d: %v; not %v, behind %d steps of the write: %s", key, at, got, want, done, state(a))
					}
					seen[fmt.Sprint(m.Again() > 0, m.Right() > 0)]++
				})
			}
			if len(seen) != ways {
				t.Errorf("begun anew, moved to the right: %v", seen)
			}
		})
	}
}

// The document's eighth example of the whole: a put between the two readings of a look's word.
func TestPutBetween(t *testing.T) {
	a := newArena(t)
	w := newWriter(a, api.Config{Nodes: 40, Leaf: 2, Inner: 3, Fill: 2, Block: 4}, map[string]string{})
	l := start(t, a, "k")
	l.on(3)
	w.put("k", "1")
	if steps := w.finish(); steps != 8 {
		t.Fatalf("the put took %d steps", steps)
	}
	l.on(2)
	l.counts(1, 0)
	l.ends(5, found("1"))
}

// P3: what a machine tells hangs on no other machine in the same tree: several step by step tell what each tells alone.
func TestMachinesApart(t *testing.T) {
	for seed := range 60 {
		d := dice(seed)
		c := d.config()
		a := arenaOf(t, c.Nodes)
		w := newWriter(a, c, map[string]string{})
		for range d.below(40) {
			d.begin(w)
			w.finish()
		}
		all, alone := make([]seeker, 6), make([]answer, 6)
		for i := range all {
			all[i] = d.seeker(a)
			if i%2 == 1 {
				all[i] = seeker{get.New(a, []byte(all[i-1].key)), all[i-1].key}
			}
			m := get.New(a, []byte(all[i].key))
			for through := false; !through; through, _ = m.Step() {
			}
			alone[i] = answered(m)
		}
		for through := 0; through < len(all); {
			through = 0
			for _, x := range all {
				if is, _ := x.m.Step(); is {
					through++
				}
			}
		}
		for i, x := range all {
			if got := answered(x.m); got != alone[i] {
				t.Fatalf("%q: %v; alone %v", x.key, got, alone[i])
			}
		}
	}
}

// P1: no call panics at any argument, in trees of any form, at any step.
func TestAnyArguments(t *testing.T) {
	keys := [][]byte{nil, {}, {0}, {255}, []byte("m"), make([]byte, 64), make([]byte, 65), bytes.Repeat([]byte{255}, 64), bytes.Repeat([]byte{255}, 5000)}
	d := dice(5)
	for range 100 {
		a := d.any(1 + d.below(6)).lay(t)
		for _, key := range keys {
			m := get.New(a, key)
			for range 60 {
				m.Answer()
				m.Step()
			}
		}
	}
}
