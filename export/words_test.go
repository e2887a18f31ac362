package export_test

import (
	"encoding/binary"
	"math"
	"strings"
	"testing"

	"coppice/api"
	"coppice/arena"
	"coppice/export"
	"coppice/node"
	"coppice/pair"
	"coppice/pipe"
	"coppice/stream"
)

// words is the chapter told once more, with that of the scan: an export by the names of its steps, with keys as strings, and each time with the whole stream of what was added.
type words struct {
	a     *arena.Arena
	block int
	sink  *moody // one like the machine's
	args  bool   // may its arguments not be?
	end   bool   // is it through?
	err   api.Errno

	next  string // step of the scan
	own   bool   // is that behind the descent?
	id    int
	word  uint64
	n     api.Node
	taken []string // keys
	took  bool     // was a leaf taken by the last step?

	added []api.Entry
	shut  bool
	sure  []byte // of the stream
	sent  int    // of these
	idle  int
}

func newWords(a *arena.Arena, block int, f mood) *words {
	w := &words{a: a, block: block, sink: &moody{mood: f}, next: "root"}
	w.args = block < 1 || block > 64
	if !w.args {
		w.sure = beginning(nil, block)
	}
	return w
}

// whole is the stream of some entries that may be.
func whole(l []api.Entry, block int) []byte {
	b, err, number := stream.Bytes(l, block)
	if err != api.OK {
		panic(err.Error() + " of " + list(l[number:number+1]))
	}
	return b
}

// beginning is what is sure of the stream of some entries, behind which others may come: the head, and the blocks that are full. Where a stream's foot begins, its tail tells.
func beginning(l []api.Entry, block int) []byte {
	b := whole(l[:len(l)/block*block], block)
	return b[:binary.LittleEndian.Uint64(b[len(b)-12:])]
}

// name is that of the step that is next.
func (w *words) name() string {
	switch {
	case w.end:
		return "none"
	case w.args:
		return "ARGS"
	case w.sent < len(w.sure):
		return "PUSH"
	case w.own:
		return strings.ToUpper(w.next)
	}
	return w.next
}

func (w *words) how() ended { return ended{w.err, len(w.added), w.sent} }

// step does the step that is next: is it through then?
func (w *words) step() bool {
	w.took = false
	switch {
	case w.end:
	case w.args:
		w.err = api.ErrArg
	case w.sent < len(w.sure):
		w.err = w.push()
		w.end = w.shut && w.sent == len(w.sure)
	default:
		w.err = w.scan()
	}
	w.end = w.end || w.err != api.OK
	return w.end
}

func (w *words) push() api.Errno {
	first := w.sure[w.sent:]
	if len(first) > 4096 {
		first = first[:4096]
	}
	n, err := w.sink.Write([]byte(string(first)))
	if n < 0 || n > len(first) {
		return api.ErrPipeBad
	}
	w.sent += n
	w.idle++
	if n > 0 {
		w.idle = 0
	}
	if err == api.OK && w.idle == 16 {
		return api.ErrPipeIdle
	}
	return err
}

// scan is a step of the scan, and what the writer makes of it.
func (w *words) scan() api.Errno {
	fresh, through, err := w.look()
	for _, e := range fresh {
		if wrong := pair.Check(e); wrong != api.OK {
			return wrong
		}
		w.added = append(w.added, e)
	}
	switch {
	case err != api.OK:
		return err
	case through:
		w.shut, w.sure = true, whole(w.added, w.block)
	case len(fresh) > 0:
		w.sure = beginning(w.added, w.block)
	}
	return api.OK
}

// look is a step of the scan: what it takes, and whether the scan is through then, by an error or well.
func (w *words) look() (fresh []api.Entry, through bool, err api.Errno) {
	switch w.next {
	case "root":
		w.id, w.next = w.a.Root(), "word"
		return nil, false, api.OK
	case "word":
		w.word, err = w.a.Word(w.id)
		if w.word%2 == 0 {
			w.next = "head"
		}
	case "head":
		w.n.Head, err = w.a.Head(w.id)
		w.next = "body"
	case "body":
		w.n.Body, err = w.a.Body(w.id)
		w.next = "valid"
	case "valid":
		var word uint64
		word, err = w.a.Word(w.id)
		switch {
		case err != api.OK:
		case word != w.word && w.own:
			w.next = "word"
		case word != w.word:
			w.next = "root"
		default:
			return w.seen()
		}
	}
	if err != api.OK {
		return nil, true, api.ErrArenaNode
	}
	return nil, false, api.OK
}

// seen: a node was read whole.
func (w *words) seen() ([]api.Entry, bool, api.Errno) {
	switch {
	case w.own && w.n.Level > 0, !w.own && w.n.Level < 0:
		return nil, true, api.ErrArenaNode
	case w.n.Level > 0:
		w.id, w.next = node.Child(w.n, nil), "word"
		return nil, false, api.OK
	}
	w.own = true
	fresh := w.take()
	w.id, w.next = w.n.Right, "word"
	return fresh, len(w.n.High) == 0, api.OK
}

func (w *words) take() (fresh []api.Entry) {
	w.took = true
	for i, key := range w.n.Keys {
		rises := true
		for _, k := range w.taken {
			rises = rises && string(key) > k
		}
		if !rises {
			continue
		}
		e := api.Entry{Key: key}
		if i < len(w.n.Values) {
			e.Value = w.n.Values[i]
		}
		w.taken, fresh = append(w.taken, string(key)), append(fresh, e)
	}
	return fresh
}

// any is a tree of nodes of any form, whose numbers often lead to one another.
func (d *dice) any(nodes int) tree {
	x := tree{slots: nodes + d.below(8), root: 1 + d.below(nodes)}
	for range nodes {
		x.nodes = append(x.nodes, d.node(nodes))
	}
	return x
}

func (d *dice) node(nodes int) api.Node {
	number := func() int {
		return d.pick(d.below(nodes+1), 1+d.below(nodes), 1+d.below(nodes), 1+d.below(nodes), nodes+1, -1, math.MinInt, math.MaxInt)
	}
	n := api.Node{Head: api.Head{Level: d.pick(0, 0, 0, 0, 0, 0, 0, 1, 1, 2, 3, -1, math.MinInt, math.MaxInt)}}
	if d.below(3) > 0 {
		n.High, n.Right = d.text(), number()
	}
	for range d.below(10) {
		n.Keys = append(n.Keys, d.oddText(0, 64, 65))
	}
	for range d.below(12) {
		n.Values = append(n.Values, d.oddText(0, 256, 257))
	}
	for range d.below(5) {
		n.Kids = append(n.Kids, number())
	}
	return n
}

// oddText is a short one, but now and then of one of these lengths.
func (d *dice) oddText(lengths ...int) []byte {
	text := d.text()
	if d.below(40) > 0 {
		return text
	}
	return append(text, make([]byte, 300)...)[:d.pick(lengths...)]
}

// block is a number of entries of a block: mostly a small one, now and then one that may not be.
func (d *dice) block() int {
	return d.pick(1, 1, 2, 2, 3, 3, 4, 5, 6, 7, 8, 9, 16, 64, d.pick(0, 65, -1, math.MinInt, math.MaxInt))
}

// turn does one call that turns something, of any that an arena has; now and then the arena is another one.
func (d *dice) turn(a *arena.Arena) {
	id := d.below(a.Used() + 2)
	switch d.below(12) {
	case 0, 1, 2:
		word, _ := a.Word(id)
		a.Lock(id, word)
	case 3, 4:
		a.Unlock(id, true)
	case 5:
		a.Unlock(id, false)
	case 6, 7:
		a.SetHead(id, d.node(a.Used()).Head)
	case 8, 9:
		a.SetBody(id, d.node(a.Used()).Body)
	case 10:
		a.Grow(a.Root(), id)
	case 11:
		switch d.below(12) {
		case 0:
			fresh, _ := arena.New(1 + d.below(3))
			*a = *fresh
		case 1, 2, 3:
			a.Alloc()
		}
	}
}

// ways counts which steps were done, and how machines ended.
type ways struct {
	steps map[string]int
	ends  map[api.Errno]int
	later map[api.Errno]int // of these: how many had added entries
}

func newWays() ways {
	return ways{map[string]int{}, map[api.Errno]int{}, map[api.Errno]int{}}
}

// see counts how a machine ended, if it did.
func (x ways) see(w *words) {
	if !w.end {
		return
	}
	x.ends[w.err]++
	if len(w.added) > 0 {
		x.later[w.err]++
	}
}

// enough: was each step done so often, and did so many end in each way?
func (x ways) enough(t *testing.T, least int) {
	t.Helper()
	for _, name := range []string{"none", "ARGS", "PUSH", "root", "word", "head", "body", "valid", "WORD", "HEAD", "BODY", "VALID"} {
		if x.steps[name] < least {
			t.Errorf("%s: %d times", name, x.steps[name])
		}
	}
	ways := []api.Errno{api.OK, api.ErrLong, api.ErrArenaNode, api.ErrPipeBroken, api.ErrPipeIdle, api.ErrPipeBad, 1, 31, -5}
	for _, err := range ways {
		if x.ends[err] < least {
			t.Errorf("error %d: %d times", err, x.ends[err])
		}
		if x.later[err] < least/5 {
			t.Errorf("error %d behind some entries: %d times", err, x.later[err])
		}
	}
}

// Machines in trees of any form, with writers of any mood, alone: each step is as the chapter says.
func TestAnyTree(t *testing.T) {
	seen := newWays()
	for seed := range 8000 {
		d := dice(seed)
		r := start(t, d.any(1+d.below(6)), d.block(), d.mood())
		for steps, through := 0, false; steps < 150 && !through; steps++ {
			seen.steps[r.w.name()]++
			through = r.step()
		}
		seen.steps[r.w.name()]++
		r.step()
		seen.see(r.w)
	}
	seen.enough(t, 25)
	t.Logf("%v", seen)
}

// Many machines in turns, while anything is turned between: each step is as the chapter says, and what a machine does hangs on what it reads of the arena, and on what its writer tells, alone.
func TestAnyTurns(t *testing.T) {
	seen := newWays()
	for seed := range 3000 {
		d := dice(seed)
		r := start(t, d.any(1+d.below(6)), d.block(), d.mood())
		all := []run{r}
		for range 1 + d.below(5) {
			all = append(all, r.next(d.block(), d.mood()))
		}
		busy := 1 + d.below(20) // one turn in so many turns something
		for range 200 {
			if d.below(busy) == 0 {
				d.turn(r.a)
			}
			x := all[d.below(len(all))]
			if x.w.end && d.below(20) > 0 {
				continue
			}
			seen.steps[x.w.name()]++
			x.step()
		}
		for _, x := range all {
			seen.see(x.w)
		}
	}
	seen.enough(t, 25)
	t.Logf("%v", seen)
}

// P1: no call panics at any argument, in trees of any form, at any step, whatever the writer tells.
func TestAnyArguments(t *testing.T) {
	d := dice(5)
	for range 300 {
		x := d.any(1 + d.below(6))
		for _, block := range []int{math.MinInt, -1, 0, 1, 2, 64, 65, math.MaxInt} {
			for _, w := range []pipe.Writer{nil, pipe.NewSink(nil, 0), pipe.NewSink([]int{-1, math.MinInt, 0, math.MaxInt}, 9), pipe.NewSink(nil, math.MinInt), &moody{mood: d.mood()}} {
				m := export.New(x.lay(t), block, w)
				for range 60 {
					m.Answer()
					m.Sent()
					m.Step()
				}
			}
		}
	}
}
