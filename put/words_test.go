package put_test

import (
	"math"
	"testing"

	"coppice/api"
	"coppice/arena"
	"coppice/node"
	"coppice/put"
)

// words is the chapter told once more, with that of the descent: a put by the names of its steps, with keys as strings.
type words struct {
	a          *arena.Arena
	c          api.Config
	sep, value string
	level      int
	next       string // empty: it is through
	took       bool
	had        bool
	told       answer

	locked bool // behind LOCK: BODY is not the descent's then

	id   int
	word uint64
	n    api.Node
	m    api.Node
	p, q api.Node
	k    string
	s    int
	l, r int
	t    int
}

func newWords(a *arena.Arena, c api.Config, key, value string) *words {
	if len(key) < 1 || len(key) > 64 || len(value) > 256 {
		return &words{next: "ARGS"}
	}
	return &words{a: a, c: c, sep: key, value: value, next: "ROOT"}
}

// step does the step that is next. Whatever it leaves as next does not count, if the arena answered an error.
func (w *words) step() (bool, bool) {
	if w.next == "" {
		return true, false
	}
	w.took = false
	var err api.Errno
	switch w.next {
	case "ROOT", "WORD", "HEAD", "VALID":
		w.down()
	case "BODY":
		if !w.locked {
			w.down()
		} else {
			err = w.a.SetBody(w.id, w.m.Body)
			w.next = "FREE"
		}
	case "ARGS":
		w.end(true, api.ErrLong)
	case "LOCK", "FREE", "KEEP", "ALLOC", "GIVE":
		err = w.atNode()
	case "TOP", "TALLOC", "THEAD", "TBODY", "TFREE", "GROW":
		err = w.atTop()
	default:
		err = w.halves()
	}
	if err != api.OK {
		w.end(false, err)
	}
	return w.next == "", w.took
}

// end makes it through: did it take effect in this step, and with which error?
func (w *words) end(took bool, err api.Errno) {
	w.next, w.took = "", took
	if err != api.OK {
		w.told = failed(err)
	} else {
		w.told = answer{there: w.had}
	}
}

func (w *words) down() {
	var err api.Errno
	switch w.next {
	case "ROOT":
		w.id, w.next = w.a.Root(), "WORD"
	case "WORD":
		w.word, err = w.a.Word(w.id)
		if w.word%2 == 0 {
			w.next = "HEAD"
		}
	case "HEAD":
		w.n.Head, err = w.a.Head(w.id)
		w.next = "BODY"
	case "BODY":
		w.n.Body, err = w.a.Body(w.id)
		w.next = "VALID"
	case "VALID":
		var word uint64
		if word, err = w.a.Word(w.id); err == api.OK {
			w.behindValid(word)
		}
	}
	if err != api.OK {
		w.noLevel()
	}
}

func (w *words) noLevel() {
	if w.level == 0 {
		w.end(false, api.ErrArenaNode)
	} else {
		w.next = "TOP"
	}
}

func (w *words) behindValid(word uint64) {
	high := string(w.n.High)
	switch {
	case word != w.word:
		w.next = "ROOT"
	case w.n.Level < w.level:
		w.noLevel()
	case high != "" && w.sep >= high:
		w.id, w.next = w.n.Right, "WORD"
	case w.n.Level > w.level:
		w.id, w.next = node.Child(w.n, []byte(w.sep)), "WORD"
	default:
		w.next = "LOCK"
	}
}

func (w *words) atNode() api.Errno {
	var err api.Errno
	switch w.next {
	case "LOCK":
		var is bool
		if is, err = w.a.Lock(w.id, w.word); is {
			w.locked = true
			w.behindLock()
		} else {
			w.next = "ROOT"
		}
	case "FREE":
		if err = w.a.Unlock(w.id, true); err == api.OK {
			w.end(w.level == 0, api.OK)
		}
	case "KEEP":
		if err = w.a.Unlock(w.id, false); err == api.OK {
			w.end(false, api.OK)
		}
	case "ALLOC":
		id, refused := w.a.Alloc()
		if refused != api.OK {
			w.next = "GIVE"
			break
		}
		var k []byte
		w.s = id
		w.p, w.q, k = node.Split(w.m, w.s)
		w.k, w.next = string(k), "QHEAD"
	case "GIVE":
		if err = w.a.Unlock(w.id, false); err != api.OK {
			break
		}
		if w.level == 0 {
			w.end(true, api.ErrFull)
		} else {
			w.end(false, api.OK)
		}
	}
	return err
}

func (w *words) behindLock() {
	there := false
	for _, k := range w.n.Keys {
		there = there || string(k) == w.sep
	}
	if w.level > 0 && there {
		w.next = "KEEP"
		return
	}
	if w.level == 0 {
		w.had = there
		w.m = node.With(w.n, []byte(w.sep), []byte(w.value))
	} else {
		w.m, _ = node.Joined(w.n, []byte(w.sep), w.r)
	}
	if node.Over(w.m, w.c) {
		w.next = "ALLOC"
	} else {
		w.next = "BODY"
	}
}

func (w *words) halves() api.Errno {
	switch w.next {
	case "QHEAD":
		w.next = "QBODY"
		return w.a.SetHead(w.s, w.q.Head)
	case "QBODY":
		w.next = "QFREE"
		return w.a.SetBody(w.s, w.q.Body)
	case "QFREE":
		w.next = "PHEAD"
		return w.a.Unlock(w.s, true)
	case "PHEAD":
		w.next = "PBODY"
		return w.a.SetHead(w.id, w.p.Head)
	case "PBODY":
		w.next = "PFREE"
		return w.a.SetBody(w.id, w.p.Body)
	case "PFREE":
		err := w.a.Unlock(w.id, true)
		w.took = err == api.OK && w.level == 0
		w.l, w.r, w.sep, w.level, w.next = w.id, w.s, w.k, w.level+1, "ROOT"
		w.locked = false
		return err
	}
	panic("no such step: " + w.next)
}

func (w *words) atTop() api.Errno {
	switch w.next {
	case "TOP":
		if w.a.Root() != w.l {
			w.end(false, api.OK)
		} else {
			w.next = "TALLOC"
		}
	case "TALLOC":
		id, refused := w.a.Alloc()
		if refused != api.OK {
			w.end(false, api.OK)
		} else {
			w.t, w.next = id, "THEAD"
		}
	case "THEAD":
		w.next = "TBODY"
		return w.a.SetHead(w.t, api.Head{Level: w.level})
	case "TBODY":
		w.next = "TFREE"
		return w.a.SetBody(w.t, api.Body{Keys: [][]byte{[]byte(w.sep)}, Kids: []int{w.l, w.r}})
	case "TFREE":
		w.next = "GROW"
		return w.a.Unlock(w.t, true)
	case "GROW":
		is, err := w.a.Grow(w.l, w.t)
		if is {
			w.end(false, api.OK)
		} else {
			w.next = "ROOT"
		}
		return err
	}
	return api.OK
}

// any is a tree of nodes of any form, whose numbers often lead to one another.
func (d *dice) any(nodes int) tree {
	x := tree{slots: nodes + d.below(8), root: 1 + d.below(nodes)}
	for range nodes {
		x.nodes = append(x.nodes, d.node(nodes))
	}
	// Now and then a node above has all keys of a leaf: so one that is between two halves stands there already.
	if nodes > 1 && d.below(4) == 0 {
		low, up := x.nodes[0], x.nodes[1]
		low.Level, low.High, low.Right = 0, nil, 0
		up.Level, up.High, up.Right, up.Keys, up.Kids = 1, nil, 0, low.Keys, []int{1}
		x.root, x.nodes[0], x.nodes[1] = 2, low, up
	}
	return x
}

func (d *dice) node(nodes int) api.Node {
	number := func() int {
		return d.pick(d.below(nodes+1), 1+d.below(nodes), 1+d.below(nodes), 1+d.below(nodes), nodes+1, -1, math.MinInt, math.MaxInt)
	}
	n := api.Node{Head: api.Head{Level: d.pick(0, 0, 0, 0, 0, 0, 0, 1, 1, 2, 3, -1, math.MinInt, math.MaxInt)}}
	if d.below(3) > 0 {
		n.High, n.Right = d.text(), number()
	}
	for range d.below(6) {
		n.Keys = append(n.Keys, d.text())
	}
	for range d.below(6) {
		n.Values = append(n.Values, d.text())
	}
	for range d.below(5) {
		n.Kids = append(n.Kids, number())
	}
	return n
}

// anyConfig is one that may be, or one that may not.
func (d *dice) anyConfig() api.Config {
	return api.Config{
		Nodes: d.below(3), Fill: d.below(3), Block: d.below(3),
		Leaf:  d.pick(2, 2, 3, 4, 1, 0, -1, math.MinInt, math.MaxInt),
		Inner: d.pick(3, 3, 4, 2, 1, 0, -1, math.MinInt, math.MaxInt),
	}
}

// turn does one call that turns something, of any that an arena has; now and then the arena is another one.
func (d *dice) turn(a *arena.Arena) {
	id := d.below(a.Used() + 2)
	switch d.below(12) {
	case 0, 1, 2:
		word, _ := a.Word(id)
		a.Lock(id, word)
	case 3, 4:
		a.Unlock(id, true)
	case 5:
		a.Unlock(id, false)
	case 6, 7:
		a.SetHead(id, d.node(a.Used()).Head)
	case 8, 9:
		a.SetBody(id, d.node(a.Used()).Body)
	case 10:
		a.Grow(a.Root(), id)
	case 11:
		switch d.below(8) {
		case 0:
			fresh, _ := arena.New(1 + d.below(3))
			*a = *fresh
		case 1, 2, 3:
			a.Alloc()
		}
	}
}

// ways counts which steps were done, and how machines ended.
type ways struct {
	steps map[string]int
	ends  map[answer]int
}

func newWays() ways { return ways{map[string]int{}, map[answer]int{}} }

// enough: was each step done so often, and did so many end in each way?
func (x ways) enough(t *testing.T, least int) {
	t.Helper()
	for _, name := range []string{"ARGS", "ROOT", "WORD", "HEAD", "BODY", "VALID", "LOCK", "FREE", "KEEP", "ALLOC", "GIVE",
		"QHEAD", "QBODY", "QFREE", "PHEAD", "PBODY", "PFREE", "TOP", "TALLOC", "THEAD", "TBODY", "TFREE", "GROW"} {
		if x.steps[name] < least {
			t.Errorf("%s: %d times", name, x.steps[name])
		}
	}
	for _, end := range []answer{fresh, had, failed(api.ErrLong), failed(api.ErrFull), failed(api.ErrArenaNode)} {
		if x.ends[end] < least {
			t.Errorf("%v: %d times", end, x.ends[end])
		}
	}
}

// Machines in trees of any form, by any configuration, alone: each step is as the chapter says.
func TestAnyTree(t *testing.T) {
	seen := newWays()
	for seed := range 5000 {
		d := dice(seed)
		r := start(t, d.any(1+d.below(6)), d.anyConfig(), string(d.text()), string(d.text()))
		for steps, through := 0, false; steps < 120 && !through; steps++ {
			seen.steps[r.w.next]++
			through, _ = r.step()
		}
		seen.ends[r.w.told]++
	}
	seen.enough(t, 10)
}

// Many machines in turns, while anything is turned between: each step is as the chapter says, and what a machine does hangs on what it reads of the arena alone.
func TestAnyTurns(t *testing.T) {
	seen := newWays()
	for seed := range 700 {
		d := dice(seed)
		r := start(t, d.any(1+d.below(6)), d.anyConfig(), "a", "")
		all := []run{r}
		for range 1 + d.below(5) {
			all = append(all, r.next(d.anyConfig(), string(d.text()), string(d.text())))
		}
		busy := 1 + d.below(20) // one turn in so many turns something
		for range 250 {
			if d.below(busy) == 0 {
				same := d // the same dice for the other arena
				d.turn(r.a)
				same.turn(r.b)
			}
			x := all[d.below(len(all))]
			seen.steps[x.w.next]++
			x.step()
		}
		for _, x := range all {
			seen.ends[x.w.told]++
		}
	}
	seen.enough(t, 10)
	if seen.ends[failed(api.ErrArenaLatch)] < 10 {
		t.Errorf("latches that were lost: %d", seen.ends[failed(api.ErrArenaLatch)])
	}
}

// P1: no call panics at any argument, in trees of any form, at any step.
func TestAnyArguments(t *testing.T) {
	lists := [][]byte{nil, {}, {0}, {255}, []byte("m"), make([]byte, 64), make([]byte, 65), make([]byte, 256), make([]byte, 257), make([]byte, 5000)}
	d := dice(5)
	for range 40 {
		x := d.any(1 + d.below(6))
		for _, key := range lists {
			for _, value := range lists {
				m := put.New(x.lay(t), d.anyConfig(), key, value)
				for range 60 {
					m.Answer()
					m.Step()
				}
			}
		}
	}
}
