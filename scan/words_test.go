package scan_test

import (
	"math"
	"strings"
	"testing"

	"coppice/api"
	"coppice/arena"
	"coppice/node"
	"coppice/scan"
)

// words is the chapter told once more, with that of the descent: a scan by the names of its steps, with keys as strings.
type words struct {
	a      *arena.Arena
	lo, hi string
	most   int
	next   string // empty: it is through
	own    bool   // is it behind the descent?

	id   int
	word uint64
	n    api.Node

	took  bool        // was a leaf taken by the last step?
	fresh []api.Entry // what was taken by it
	taken []api.Entry
	err   api.Errno
}

func newWords(a *arena.Arena, lo string, hi string, most int) *words {
	w := &words{a: a, lo: lo, hi: hi, most: most, next: "root"}
	if most <= 0 || hi != "" && hi <= lo {
		w.next = "args"
	}
	return w
}

// name is that of the step that is next: in great letters, if it is the scan's own.
func (w *words) name() string {
	if w.own || w.next == "args" {
		return strings.ToUpper(w.next)
	}
	return w.next
}

// told is what it answers now.
func (w *words) told() answer {
	if w.next != "" || w.err != api.OK {
		return failed(w.err)
	}
	return found(list(w.taken))
}

func (w *words) end(err api.Errno) { w.next, w.err = "", err }

// step does the step that is next: is it through then?
func (w *words) step() bool {
	w.took, w.fresh = false, nil
	switch w.next {
	case "":
	case "args":
		w.end(api.OK)
		if w.most < 0 {
			w.end(api.ErrArg)
		}
	case "root":
		w.id, w.next = w.a.Root(), "word"
	default:
		if err := w.read(); err != api.OK {
			w.end(api.ErrArenaNode)
		}
	}
	return w.next == ""
}

// read does a step that reads something of a node. Whatever it leaves as next does not count, if the arena answered an error.
func (w *words) read() (err api.Errno) {
	switch w.next {
	case "word":
		w.word, err = w.a.Word(w.id)
		if w.word%2 == 0 {
			w.next = "head"
		}
	case "head":
		w.n.Head, err = w.a.Head(w.id)
		w.next = "body"
	case "body":
		w.n.Body, err = w.a.Body(w.id)
		w.next = "valid"
	case "valid":
		var word uint64
		word, err = w.a.Word(w.id)
		switch {
		case err != api.OK:
		case word != w.word && w.own:
			w.next = "word"
		case word != w.word:
			w.next = "root"
		case w.own && w.n.Level > 0:
			w.end(api.ErrArenaNode)
		case w.own:
			w.take()
		default:
			w.down()
		}
	}
	return err
}

// down is what a descent for lo does with a node that it has read.
func (w *words) down() {
	high := string(w.n.High)
	switch {
	case w.n.Level < 0:
		w.end(api.ErrArenaNode)
	case high != "" && w.lo >= high:
		w.id, w.next = w.n.Right, "word"
	case w.n.Level > 0:
		w.id, w.next = node.Child(w.n, []byte(w.lo)), "word"
	default:
		w.own = true
		w.take()
	}
}

func (w *words) take() {
	w.took = true
	for i, k := range w.n.Keys {
		key, ok := string(k), len(w.taken) < w.most
		ok = ok && key >= w.lo && (w.hi == "" || key < w.hi)
		for _, e := range w.taken {
			ok = ok && key > string(e.Key)
		}
		if !ok {
			continue
		}
		e := api.Entry{Key: k}
		if i < len(w.n.Values) {
			e.Value = w.n.Values[i]
		}
		w.taken, w.fresh = append(w.taken, e), append(w.fresh, e)
	}
	high := string(w.n.High)
	if len(w.taken) == w.most || high == "" || w.hi != "" && high >= w.hi {
		w.end(api.OK)
		return
	}
	w.id, w.next = w.n.Right, "word"
}

// any is a tree of nodes of any form, whose numbers often lead to one another.
func (d *dice) any(nodes int) tree {
	x := tree{slots: nodes + d.below(8), root: 1 + d.below(nodes)}
	for range nodes {
		x.nodes = append(x.nodes, d.node(nodes))
	}
	return x
}

func (d *dice) node(nodes int) api.Node {
	number := func() int {
		return d.pick(d.below(nodes+1), 1+d.below(nodes), 1+d.below(nodes), 1+d.below(nodes), nodes+1, -1, math.MinInt, math.MaxInt)
	}
	n := api.Node{Head: api.Head{Level: d.pick(0, 0, 0, 0, 0, 0, 0, 1, 1, 2, 3, -1, math.MinInt, math.MaxInt)}}
	if d.below(3) > 0 {
		n.High, n.Right = d.text(), number()
	}
	for range d.below(10) {
		n.Keys = append(n.Keys, d.text())
	}
	for range d.below(12) {
		n.Values = append(n.Values, d.text())
	}
	for range d.below(5) {
		n.Kids = append(n.Kids, number())
	}
	return n
}

// bounds are those of a range: now and then it begins or ends nowhere, or can have nothing.
func (d *dice) bounds() (string, string, int) {
	lo, hi := string(d.text()), string(d.text())
	if d.below(2) == 0 {
		lo = ""
	}
	if d.below(2) == 0 {
		hi = ""
	}
	return lo, hi, d.pick(0, 1, 2, 3, 5, 9, 9, 99, 99, math.MaxInt, -1, math.MinInt)
}

// turn does one call that turns something, of any that an arena has; now and then the arena is another one.
func (d *dice) turn(a *arena.Arena) {
	id := d.below(a.Used() + 2)
	switch d.below(12) {
	case 0, 1, 2:
		word, _ := a.Word(id)
		a.Lock(id, word)
	case 3, 4:
		a.Unlock(id, true)
	case 5:
		a.Unlock(id, false)
	case 6, 7:
		a.SetHead(id, d.node(a.Used()).Head)
	case 8, 9:
		a.SetBody(id, d.node(a.Used()).Body)
	case 10:
		a.Grow(a.Root(), id)
	case 11:
		switch d.below(12) {
		case 0:
			fresh, _ := arena.New(1 + d.below(3))
			*a = *fresh
		case 1, 2, 3:
			a.Alloc()
		}
	}
}

// ways counts which steps were done, and how machines ended.
type ways struct {
	steps map[string]int
	ends  map[string]int
}

func newWays() ways { return ways{map[string]int{}, map[string]int{}} }

// see counts how a machine ended, if it did.
func (x ways) see(w *words) {
	switch {
	case w.next != "":
	case w.err == api.ErrArenaNode && len(w.taken) > 0:
		x.ends["lost behind some"]++
	case w.err == api.ErrArenaNode:
		x.ends["lost"]++
	case w.err == api.ErrArg:
		x.ends["refused"]++
	case len(w.taken) == 0:
		x.ends["none"]++
	case len(w.taken) == w.most:
		x.ends["most"]++
	default:
		x.ends["some"]++
	}
}

// enough: was each step done so often, and did so many end in each way?
func (x ways) enough(t *testing.T, least int) {
	t.Helper()
	for _, name := range []string{"ARGS", "root", "word", "head", "body", "valid", "WORD", "HEAD", "BODY", "VALID"} {
		if x.steps[name] < least {
			t.Errorf("%s: %d times", name, x.steps[name])
		}
	}
	for _, end := range []string{"lost behind some", "lost", "refused", "none", "most", "some"} {
		if x.ends[end] < least {
			t.Errorf("%s: %d times", end, x.ends[end])
		}
	}
}

// Machines in trees of any form, alone: each step is as the chapter says.
func TestAnyTree(t *testing.T) {
	seen := newWays()
	for seed := range 6000 {
		d := dice(seed)
		lo, hi, most := d.bounds()
		r := start(t, d.any(1+d.below(6)), lo, hi, most)
		for steps, through := 0, false; steps < 100 && !through; steps++ {
			seen.steps[r.w.name()]++
			through = r.step()
		}
		seen.see(r.w)
	}
	seen.enough(t, 50)
}

// Many machines in turns, while anything is turned between: each step is as the chapter says, and what a machine does hangs on what it reads of the arena alone.
func TestAnyTurns(t *testing.T) {
	seen := newWays()
	for seed := range 2000 {
		d := dice(seed)
		r := start(t, d.any(1+d.below(6)), "", "", 99)
		all := []run{r}
		for range 1 + d.below(5) {
			all = append(all, r.next(d.bounds()))
		}
		busy := 1 + d.below(20) // one turn in so many turns something
		for range 150 {
			if d.below(busy) == 0 {
				d.turn(r.a)
			}
			x := all[d.below(len(all))]
			seen.steps[x.w.name()]++
			x.step()
		}
		for _, x := range all {
			seen.see(x.w)
		}
	}
	seen.enough(t, 50)
}

// P1: no call panics at any argument, in trees of any form, at any step.
func TestAnyArguments(t *testing.T) {
	lists := [][]byte{nil, {}, {0}, {255}, []byte("a"), []byte("m"), make([]byte, 64), make([]byte, 65), make([]byte, 5000)}
	d := dice(5)
	for range 30 {
		x := d.any(1 + d.below(6))
		for _, lo := range lists {
			for _, hi := range lists {
				for _, most := range []int{math.MinInt, -1, 0, 1, 2, math.MaxInt} {
					m := scan.New(x.lay(t), lo, hi, most)
					for i := range 40 {
						m.Answer()
						m.Step()
						if i%3 == 0 {
							m.Fresh()
						}
					}
				}
			}
		}
	}
}
