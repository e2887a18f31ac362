package sched_test

import (
	"testing"

	"coppice/api"
	"coppice/arena"
	"coppice/client"
	"coppice/sched"
	"coppice/shape"
)

// words is a world as the chapter tells it: clients by themselves, stepped by hand at moments that are counted here.
type words struct {
	arena   *arena.Arena
	clients []*client.Client
	h       api.History // Start and Steps of it
}

func newWords(t *testing.T, s api.Script) *words {
	t.Helper()
	a, err := arena.New(s.Config.Nodes)
	if err != api.OK {
		t.Fatalf("New: %d", err)
	}
	for _, op := range s.First { // a client each: it is one behind the other all the same
		c := client.New(a, s.Config, -1, []api.Op{op})
		for !c.Done() {
			c.Step(0)
		}
	}
	x := &words{arena: a}
	x.h.Start = shape.Map(a)
	for i := range s.Clients {
		x.clients = append(x.clients, client.New(a, s.Config, i, s.Clients[i]))
	}
	return x
}

func (x *words) pick(number int) bool {
	if number < 0 || number >= len(x.clients) || x.clients[number].Done() {
		return false
	}
	x.clients[number].Step(x.h.Steps)
	x.h.Steps++
	return true
}

func (x *words) done() bool {
	through := 0
	for _, c := range x.clients {
		if c.Done() {
			through++
		}
	}
	return through == len(x.clients)
}

func (x *words) history() api.History {
	h := x.h
	for _, c := range x.clients {
		h.Calls = append(h.Calls, c.Calls()...)
	}
	h.Done, h.End, h.Held = x.done(), shape.Map(x.arena), x.arena.Held()
	return h
}

// Any scripts, any picks: behind each pick the world stands as the words have it, and in both arenas the same; Run tells it too.
func TestWords(t *testing.T) {
	seen := map[string]int{}
	for seed := range 300 {
		d := dice(seed)
		s := d.script(6, 5)
		s.Picks = d.picks(d.pick(5, 100, 400), len(s.Clients))
		w, x := world(t, s), newWords(t, s)
		for i, number := range s.Picks {
			got, want := w.Pick(number), x.pick(number)
			if got != want || w.Done() != x.done() {
				t.Fatalf("seed %d, pick %d, of %d: %v, %v; not %v, %v", seed, i, number, got, w.Done(), want, x.done())
			}
			if i%7 == 0 || i > len(s.Picks)-10 {
				if g, want := told(w.History()), told(x.history()); g != want || mark(w.Arena()) != mark(x.arena) {
					t.Fatalf("seed %d, pick %d:\n%s\nnot\n%s", seed, i, g, want)
				}
			}
		}
		h, err := sched.Run(s)
		if want := told(x.history()); err != api.OK || told(h) != want || told(w.History()) != want {
			t.Fatalf("seed %d: %d\n%s\nnot\n%s", seed, err, told(h), want)
		}
		if h.Done {
			seen["done"]++
		} else {
			seen["not done"]++
		}
		if len(h.Held) > 0 {
			seen["held"]++
		}
		for _, c := range h.Calls {
			if c.Err == api.ErrFull {
				seen["full"]++
			}
		}
	}
	for _, what := range []string{"done", "not done", "held", "full"} {
		if seen[what] < 15 {
			t.Errorf("%s: %d", what, seen[what])
		}
	}
}
