package client_test

import (
	"slices"
	"testing"

	"coppice/api"
	"coppice/arena"
	"coppice/client"
	"coppice/del"
	"coppice/export"
	"coppice/get"
	"coppice/pipe"
	"coppice/put"
	"coppice/scan"
)

// words is a client as the chapter tells it: machines by themselves, stepped by hand.
type words struct {
	a      *arena.Arena
	c      api.Config
	number int
	ops    []api.Op
	calls  []api.Call

	// The machine that is at work: one of these at most.
	get    *get.Machine
	put    *put.Machine
	del    *del.Machine
	scan   *scan.Machine
	export *export.Machine
	sink   *pipe.Sink
}

func newWords(a *arena.Arena, c api.Config, number int, ops []api.Op) *words {
	return &words{a: a, c: c, number: number, ops: ops}
}

func (w *words) done() bool {
	return len(w.calls) == len(w.ops) && (len(w.calls) == 0 || w.calls[len(w.calls)-1].Done)
}

func (w *words) step(now int) bool {
	if w.done() {
		return false
	}
	if len(w.calls) == 0 || w.calls[len(w.calls)-1].Done {
		op := w.ops[len(w.calls)]
		w.calls = append(w.calls, api.Call{Client: w.number, Number: len(w.calls), Op: op, First: now, Last: -1, Point: -1})
		w.begin(op)
	}
	call := &w.calls[len(w.calls)-1]
	through, took := w.turn()
	if took {
		call.Point = now
	}
	if through {
		call.Last, call.Done = now, true
		w.answer(call)
	}
	return true
}

// begin makes the machine of the chapter's table.
func (w *words) begin(op api.Op) {
	w.get, w.put, w.del, w.scan, w.export = nil, nil, nil, nil, nil
	switch op.Kind {
	case 1:
		w.get = get.New(w.a, op.Key)
	case 2:
		w.put = put.New(w.a, w.c, op.Key, op.Value)
	case 3:
		w.del = del.New(w.a, op.Key)
	case 4:
		w.scan = scan.New(w.a, op.Key, op.Hi, op.Most)
	case 5:
		w.sink = pipe.NewSink(op.Takes, op.Fail)
		w.export = export.New(w.a, w.c.Block, w.sink)
	}
}

// turn is one step of the machine.
func (w *words) turn() (bool, bool) {
	switch {
	case w.get != nil:
		return w.get.Step()
	case w.put != nil:
		return w.put.Step()
	case w.del != nil:
		return w.del.Step()
	case w.scan != nil:
		return w.scan.Step()
	case w.export != nil:
		return w.export.Step()
	}
	return true, false
}

// answer lays in a call what the machine answers.
func (w *words) answer(call *api.Call) {
	switch {
	case w.get != nil:
		call.Value, call.There, call.Err = w.get.Answer()
	case w.put != nil:
		call.There, call.Err = w.put.Answer()
	case w.del != nil:
		call.There, call.Err = w.del.Answer()
	case w.scan != nil:
		call.Entries, call.Err = w.scan.Answer()
	case w.export != nil:
		call.Err = w.export.Answer()
		call.Value = w.sink.Bytes()
	default:
		call.Err = api.ErrArg
	}
}

// run is clients in one arena, and the chapter's words on them in another one that is like it.
type run struct {
	t       *testing.T
	a, b    *arena.Arena
	clients []*client.Client
	words   []*words
	now     int
}

func start(t *testing.T, x tree, c api.Config, lists ...[]api.Op) *run {
	t.Helper()
	r := &run{t: t, a: x.lay(t), b: x.lay(t)}
	for i, ops := range lists {
		r.clients = append(r.clients, client.New(r.a, c, i, ops))
		r.words = append(r.words, newWords(r.b, c, i, ops))
	}
	r.same()
	return r
}

// step is one of a client's, at the next moment, if it is not done; else nothing. In both arenas the same must stand then.
func (r *run) step(i int) bool {
	r.t.Helper()
	got, want := r.clients[i].Step(r.now), r.words[i].step(r.now)
	if got != want {
		r.t.Fatalf("moment %d, client %d: %v; not %v: %s", r.now, i, got, want, all(r.words[i].calls))
	}
	if want {
		r.now++
	}
	return got
}

// same holds the clients and their arena against the words.
func (r *run) same() {
	r.t.Helper()
	if mark(r.a) != mark(r.b) {
		r.t.Fatalf("moment %d: the arenas are unlike: %s", r.now, all(r.calls()))
	}
	for i, c := range r.clients {
		got, want := all(c.Calls()), all(r.words[i].calls)
		if got != want || c.Done() != r.words[i].done() {
			r.t.Fatalf("moment %d: done %v\n%s\nnot done %v\n%s", r.now, c.Done(), got, r.words[i].done(), want)
		}
	}
}

// turns are steps of these clients.
func (r *run) turns(l ...int) {
	r.t.Helper()
	for _, i := range l {
		r.step(i)
		r.same()
	}
}

// finish goes round till all are done.
func (r *run) finish() {
	r.t.Helper()
	for rounds := 0; slices.ContainsFunc(r.clients, func(c *client.Client) bool { return !c.Done() }); rounds++ {
		if rounds > 3000 {
			r.t.Fatalf("they do not come through: %s", all(r.calls()))
		}
		for i := range r.clients {
			r.step(i)
		}
	}
	r.same()
	if held := r.a.Held(); len(held) > 0 {
		r.t.Fatalf("held: %d", held)
	}
}

// calls are those of all clients.
func (r *run) calls() []api.Call {
	var l []api.Call
	for _, c := range r.clients {
		l = append(l, c.Calls()...)
	}
	return l
}
