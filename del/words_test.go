package del_test

import (
	"math"
	"testing"

	"coppice/api"
	"coppice/arena"
	"coppice/del"
	"coppice/node"
)

// words is the chapter told once more, with that of the descent: a deletion by the names of its steps, with keys as strings.
type words struct {
	a      *arena.Arena
	key    string
	next   string // empty: it is through
	took   bool
	told   answer
	locked bool // behind LOCK: BODY is not the descent's then

	id   int
	word uint64
	n    api.Node
}

func newWords(a *arena.Arena, key string) *words {
	if len(key) < 1 || len(key) > 64 {
		return &words{next: "ARGS"}
	}
	return &words{a: a, key: key, next: "ROOT"}
}

// step does the step that is next. Whatever it leaves as next does not count, if the arena answered an error.
func (w *words) step() (bool, bool) {
	if w.next == "" {
		return true, false
	}
	w.took = false
	switch {
	case w.next == "ARGS":
		w.end(true, failed(api.ErrLong))
	case w.next == "LOCK" || w.locked:
		if err := w.atLeaf(); err != api.OK {
			w.end(false, failed(err))
		}
	default:
		w.down()
	}
	return w.next == "", w.took
}

// end makes it through: did it take effect in this step, and what does it answer?
func (w *words) end(took bool, told answer) { w.next, w.took, w.told = "", took, told }

func (w *words) atLeaf() api.Errno {
	switch w.next {
	case "LOCK":
		is, err := w.a.Lock(w.id, w.word)
		w.locked, w.next = is, "BODY"
		if !is {
			w.next = "ROOT"
		}
		return err
	case "BODY":
		less, _ := node.Without(w.n, []byte(w.key))
		w.next = "FREE"
		return w.a.SetBody(w.id, less.Body)
	}
	err := w.a.Unlock(w.id, true)
	w.end(true, gone)
	return err
}

func (w *words) down() {
	var err api.Errno
	switch w.next {
	case "ROOT":
		w.id, w.next = w.a.Root(), "WORD"
	case "WORD":
		w.word, err = w.a.Word(w.id)
		if w.word%2 == 0 {
			w.next = "HEAD"
		}
	case "HEAD":
		w.n.Head, err = w.a.Head(w.id)
		w.next = "BODY"
	case "BODY":
		w.n.Body, err = w.a.Body(w.id)
		w.next = "VALID"
	case "VALID":
		var word uint64
		if word, err = w.a.Word(w.id); err == api.OK {
			w.behindValid(word)
		}
	}
	if err != api.OK {
		w.end(false, failed(api.ErrArenaNode))
	}
}

func (w *words) behindValid(word uint64) {
	high := string(w.n.High)
	switch {
	case word != w.word:
		w.next = "ROOT"
	case w.n.Level < 0:
		w.end(false, failed(api.ErrArenaNode))
	case high != "" && w.key >= high:
		w.id, w.next = w.n.Right, "WORD"
	case w.n.Level > 0:
		w.id, w.next = node.Child(w.n, []byte(w.key)), "WORD"
	default:
		for _, k := range w.n.Keys {
			if string(k) == w.key {
				w.next = "LOCK"
				return
			}
		}
		w.end(true, missing)
	}
}

// any is a tree of nodes of any form, whose numbers often lead to one another.
func (d *dice) any(nodes int) tree {
	x := tree{slots: nodes + d.below(8), root: 1 + d.below(nodes)}
	for range nodes {
		x.nodes = append(x.nodes, d.node(nodes))
	}
	return x
}

func (d *dice) node(nodes int) api.Node {
	number := func() int {
		return d.pick(d.below(nodes+1), 1+d.below(nodes), 1+d.below(nodes), 1+d.below(nodes), nodes+1, -1, math.MinInt, math.MaxInt)
	}
	n := api.Node{Head: api.Head{Level: d.pick(0, 0, 0, 0, 0, 0, 0, 1, 1, 2, 3, -1, math.MinInt, math.MaxInt)}}
	if d.below(3) > 0 {
		n.High, n.Right = d.text(), number()
	}
	for range d.below(16) {
		n.Keys = append(n.Keys, d.text())
	}
	for range d.below(16) {
		n.Values = append(n.Values, d.text())
	}
	for range d.below(5) {
		n.Kids = append(n.Kids, number())
	}
	return n
}

// turn does one call that turns something, of any that an arena has; now and then the arena is another one.
func (d *dice) turn(a *arena.Arena) {
	id := d.below(a.Used() + 2)
	switch d.below(12) {
	case 0, 1, 2:
		word, _ := a.Word(id)
		a.Lock(id, word)
	case 3, 4:
		a.Unlock(id, true)
	case 5:
		a.Unlock(id, false)
	case 6, 7:
		a.SetHead(id, d.node(a.Used()).Head)
	case 8, 9:
		a.SetBody(id, d.node(a.Used()).Body)
	case 10:
		a.Grow(a.Root(), id)
	case 11:
		switch d.below(8) {
		case 0:
			fresh, _ := arena.New(1 + d.below(3))
			*a = *fresh
		case 1, 2, 3:
			a.Alloc()
		}
	}
}

// ways counts which steps were done, and how machines ended.
type ways struct {
	steps map[string]int
	ends  map[answer]int
}

func newWays() ways { return ways{map[string]int{}, map[answer]int{}} }

// enough: was each step done so often, and did so many end in each way?
func (x ways) enough(t *testing.T, least int) {
	t.Helper()
	for _, name := range []string{"ARGS", "ROOT", "WORD", "HEAD", "BODY", "VALID", "LOCK", "FREE"} {
		if x.steps[name] < least {
			t.Errorf("%s: %d times", name, x.steps[name])
		}
	}
	for _, end := range []answer{gone, missing, failed(api.ErrLong), failed(api.ErrArenaNode)} {
		if x.ends[end] < least {
			t.Errorf("%v: %d times", end, x.ends[end])
		}
	}
}

// Machines in trees of any form, alone: each step is as the chapter says.
func TestAnyTree(t *testing.T) {
	seen := newWays()
	for seed := range 5000 {
		d := dice(seed)
		r := start(t, d.any(1+d.below(6)), string(d.text()))
		for steps, through := 0, false; steps < 120 && !through; steps++ {
			seen.steps[r.w.next]++
			through, _ = r.step()
		}
		if r.w.next == "" {
			seen.ends[r.w.told]++
		}
	}
	seen.enough(t, 50)
}

// Many machines in turns, while anything is turned between: each step is as the chapter says, and what a machine does hangs on what it reads of the arena alone.
func TestAnyTurns(t *testing.T) {
	seen := newWays()
	for seed := range 1500 {
		d := dice(seed)
		r := start(t, d.any(1+d.below(6)), "a")
		all := []run{r}
		for range 1 + d.below(5) {
			all = append(all, r.next(string(d.text())))
		}
		busy := 1 + d.below(20) // one turn in so many turns something
		for range 200 {
			if d.below(busy) == 0 {
				same := d // the same dice for the other arena
				d.turn(r.a)
				same.turn(r.b)
			}
			x := all[d.below(len(all))]
			seen.steps[x.w.next]++
			x.step()
		}
		for _, x := range all {
			if x.w.next == "" {
				seen.ends[x.w.told]++
			}
		}
	}
	seen.enough(t, 50)
	if seen.ends[failed(api.ErrArenaLatch)] < 10 {
		t.Errorf("latches that were lost: %d", seen.ends[failed(api.ErrArenaLatch)])
	}
}

// P1: no call panics at any argument, in trees of any form, at any step.
func TestAnyArguments(t *testing.T) {
	lists := [][]byte{nil, {}, {0}, {255}, []byte("a"), []byte("m"), make([]byte, 64), make([]byte, 65), make([]byte, 256), make([]byte, 5000)}
	d := dice(5)
	for range 200 {
		x := d.any(1 + d.below(6))
		for _, key := range lists {
			m := del.New(x.lay(t), key)
			for range 60 {
				m.Answer()
				m.At()
				m.Again()
				m.Right()
				m.Step()
			}
		}
	}
}
