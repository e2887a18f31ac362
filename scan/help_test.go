package scan_test

import (
	"encoding/binary"
	"fmt"
	"slices"
	"strconv"
	"strings"
	"testing"

	"coppice/api"
	"coppice/arena"
	"coppice/scan"
)

// tree is what an arena is to have: how many slots, the number of the root, and the nodes of the slots from 1 on.
type tree struct {
	slots int
	root  int
	nodes []api.Node
}

func texts(l ...string) [][]byte {
	var out [][]byte
	for _, s := range l {
		out = append(out, []byte(s))
	}
	return out
}

// leaf is a leaf of some entries: keys and values by turns.
func leaf(high string, right int, entries ...string) api.Node {
	n := api.Node{Head: api.Head{High: []byte(high), Right: right}}
	for i := 0; i < len(entries); i += 2 {
		n.Keys, n.Values = append(n.Keys, []byte(entries[i])), append(n.Values, []byte(entries[i+1]))
	}
	return n
}

func inner(level int, high string, right int, keys [][]byte, kids ...int) api.Node {
	return api.Node{Head: api.Head{Level: level, High: []byte(high), Right: right}, Body: api.Body{Keys: keys, Kids: kids}}
}

// lone has one leaf.
func lone(entries ...string) tree { return tree{9, 1, []api.Node{leaf("", 0, entries...)}} }

// small has two leaves and a root.
func small() tree {
	return tree{9, 3, []api.Node{
		leaf("m", 2, "b", "1", "d", "2"),
		leaf("", 0, "m", "3"),
		inner(1, "", 0, texts("m"), 1, 2),
	}}
}

// tall has three levels; 2 and 5 are nobody's children.
func tall() tree {
	return tree{20, 8, []api.Node{
		leaf("d", 2, "b", "1"),
		leaf("g", 3, "d", "2", "e", "", "f", "3"),
		leaf("m", 4, "h", "4"),
		leaf("p", 5, "m", "5"),
		leaf("", 0, "p", "6", "q", "7"),
		inner(1, "m", 7, texts("g"), 1, 3),
		inner(1, "", 0, nil, 4),
		inner(2, "", 0, texts("m"), 6, 7),
	}}
}

// set is the tree in which a slot has another node.
func (x tree) set(id int, other api.Node) tree {
	x.nodes = slices.Clone(x.nodes)
	x.nodes[id-1] = other
	return x
}

// lay is a new arena that has the tree; no latch is held.
func (x tree) lay(t *testing.T) *arena.Arena {
	t.Helper()
	a, err := arena.New(x.slots)
	if err != api.OK {
		t.Fatalf("New: %d", err)
	}
	for i, n := range x.nodes {
		if i == 0 {
			hold(a, 1)
		} else {
			a.Alloc()
		}
		a.SetHead(i+1, n.Head)
		a.SetBody(i+1, n.Body)
		a.Unlock(i+1, true)
	}
	a.Grow(1, x.root)
	return a
}

// hold takes a latch.
func hold(a *arena.Arena, id int) {
	word, _ := a.Word(id)
	a.Lock(id, word)
}

// lay makes a node another one, its latch being taken and given back.
func lay(a *arena.Arena, id int, n api.Node) {
	hold(a, id)
	a.SetHead(id, n.Head)
	a.SetBody(id, n.Body)
	a.Unlock(id, true)
}

func read(a *arena.Arena, id int) api.Node {
	head, _ := a.Head(id)
	body, _ := a.Body(id)
	return api.Node{Head: head, Body: body}
}

// told is a node in words; a list that is nil is told as one that is empty.
func told(n api.Node) string {
	return fmt.Sprintf("level %d, High %q, Right %d, keys %q, values %q, kids %d", n.Level, n.High, n.Right, n.Keys, n.Values, n.Kids)
}

// nodes are an arena's nodes, in words.
func nodes(a *arena.Arena) string {
	var s strings.Builder
	for id := 1; id <= a.Used(); id++ {
		fmt.Fprintf(&s, "%d: %s\n", id, told(read(a, id)))
	}
	return s.String()
}

// wordsOf are an arena's latches.
func wordsOf(a *arena.Arena) []uint64 {
	var out []uint64
	for id := 1; id <= a.Used(); id++ {
		word, _ := a.Word(id)
		out = append(out, word)
	}
	return out
}

// state is all that an arena tells, in words.
func state(a *arena.Arena) string {
	return fmt.Sprintf("used %d, left %d, root %d, held %d, words %d\n%s", a.Used(), a.Left(), a.Root(), a.Held(), wordsOf(a), nodes(a))
}

// mark is all that an arena tells, as bytes, so that arenas are soon held against one another.
func mark(a *arena.Arena) string {
	b := binary.AppendVarint(nil, int64(a.Left()))
	b = binary.AppendVarint(b, int64(a.Root()))
	for id := 1; id <= a.Used(); id++ {
		word, _ := a.Word(id)
		n := read(a, id)
		b = binary.AppendUvarint(b, word)
		b = markBody(markHead(b, n.Head), n.Body)
	}
	return string(b)
}

func markHead(b []byte, h api.Head) []byte {
	b = binary.AppendVarint(b, int64(h.Level))
	b = binary.AppendVarint(b, int64(h.Right))
	return markTexts(b, [][]byte{h.High})
}

func markBody(b []byte, x api.Body) []byte {
	b = markTexts(markTexts(b, x.Keys), x.Values)
	b = binary.AppendUvarint(b, uint64(len(x.Kids)))
	for _, kid := range x.Kids {
		b = binary.AppendVarint(b, int64(kid))
	}
	return b
}

func markTexts(b []byte, list [][]byte) []byte {
	b = binary.AppendUvarint(b, uint64(len(list)))
	for _, text := range list {
		b = append(binary.AppendUvarint(b, uint64(len(text))), text...)
	}
	return b
}

// list tells entries in short: b=1 d=2.
func list(l []api.Entry) string {
	var out []string
	for _, e := range l {
		out = append(out, bare(e.Key)+"="+bare(e.Value))
	}
	return strings.Join(out, " ")
}

func bare(text []byte) string {
	quoted := strconv.Quote(string(text))
	return quoted[1 : len(quoted)-1]
}

// answer is what a machine answers, its entries in short.
type answer struct {
	entries string
	err     api.Errno
}

func found(entries string) answer { return answer{entries: entries} }

func failed(err api.Errno) answer { return answer{err: err} }

func answered(m *scan.Machine) answer {
	l, err := m.Answer()
	return answer{list(l), err}
}

// Names of steps that often stand one behind the other: small letters are the descent's, great ones the scan's own. A step that takes entries has their number behind a plus.
const (
	down  = "root word head body valid " // the root is read
	along = "word head body valid "      // one node more on the way down
	next  = "WORD HEAD BODY VALID "      // one leaf more
)

// takes is some names whose last step takes so many entries.
func takes(names string, count int) string {
	return fmt.Sprintf("%s+%d ", strings.TrimSuffix(names, " "), count)
}

// count is how many steps some names are.
func count(names string) int { return len(strings.Fields(names)) }

// run is a machine on its way in an arena, beside another one like it, and the chapter's words on theirs. The one is asked for what is fresh behind each step, the other one is not.
type run struct {
	t    *testing.T
	a    *arena.Arena
	m    *scan.Machine
	late *scan.Machine
	w    *words
}

func start(t *testing.T, x tree, lo string, hi string, most int) run {
	t.Helper()
	return run{t: t, a: x.lay(t)}.next(lo, hi, most)
}

// next is a run of other machines in the same arena.
func (r run) next(lo string, hi string, most int) run {
	r.t.Helper()
	was := mark(r.a)
	r.m, r.late = scan.New(r.a, []byte(lo), []byte(hi), most), scan.New(r.a, []byte(lo), []byte(hi), most)
	r.w = newWords(r.a, lo, hi, most)
	if got, fresh := answered(r.m), r.m.Fresh(); got != found("") || len(fresh) > 0 || mark(r.a) != was {
		r.t.Fatalf("New: %v, %s", got, list(fresh))
	}
	return r
}

// step does one step of all of them: they must tell the same then, nothing be turned (P16.3), and what was taken rise within the range (P16.2).
func (r run) step() bool {
	r.t.Helper()
	name, was := r.w.name(), mark(r.a)
	through, took := r.m.Step()
	lateThrough, lateTook := r.late.Step()
	if mark(r.a) != was {
		r.t.Fatalf("%s turned something: %s", name, state(r.a))
	}
	wantThrough := r.w.step()
	if took || lateTook || through != wantThrough || lateThrough != wantThrough {
		r.t.Fatalf("%s: %v, %v and %v, %v; not %v, false: %s", name, through, took, lateThrough, lateTook, wantThrough, state(r.a))
	}
	if got := list(r.m.Fresh()); got != list(r.w.fresh) {
		r.t.Fatalf("%s: fresh are %s; not %s: %s", name, got, list(r.w.fresh), state(r.a))
	}
	if got, late := answered(r.m), answered(r.late); got != r.w.told() || late != got {
		r.t.Fatalf("%s: %v and %v; not %v: %s", name, got, late, r.w.told(), state(r.a))
	}
	if l, _ := r.m.Answer(); !rises(l, r.w.lo, r.w.hi, r.w.most) {
		r.t.Fatalf("%s: %s do not rise from %q to %q, or are more than %d", name, list(l), r.w.lo, r.w.hi, r.w.most)
	}
	return through
}

// rises: do entries rise, and are they in the range, and no more than most?
func rises(l []api.Entry, lo string, hi string, most int) bool {
	for i, e := range l {
		key := string(e.Key)
		if key < lo || hi != "" && key >= hi || i > 0 && string(l[i-1].Key) >= key {
			return false
		}
	}
	return len(l) <= max(most, 0)
}

// on does the steps of these names, behind none of which the machine is through.
func (r run) on(names string) {
	r.t.Helper()
	for i, name := range strings.Fields(names) {
		if through := r.named(name); through {
			r.t.Fatalf("through behind %d steps: %v", i+1, answered(r.m))
		}
	}
}

// named does one step, which is to have this name.
func (r run) named(name string) bool {
	r.t.Helper()
	got := r.w.name()
	through := r.step()
	if taken := len(r.w.fresh); taken > 0 {
		got += "+" + strconv.Itoa(taken)
	}
	if got != name {
		r.t.Fatalf("%s; not %s: %s", got, name, state(r.a))
	}
	return through
}

// ends does the steps of these names, behind the last of which the machine is through, with this answer.
func (r run) ends(names string, want answer) {
	r.t.Helper()
	list := strings.Fields(names)
	r.on(strings.Join(list[:len(list)-1], " "))
	if !r.named(list[len(list)-1]) {
		r.t.Fatalf("not through behind %d steps: %s", len(list), r.w.name())
	}
	if got := answered(r.m); got != want {
		r.t.Fatalf("%v; not %v", got, want)
	}
	r.stays()
	r.allFresh()
}

// stays steps a machine on that is through.
func (r run) stays() {
	r.t.Helper()
	was, all := answered(r.m), mark(r.a)
	for range 3 {
		through, took := r.m.Step()
		if fresh := r.m.Fresh(); !through || took || len(fresh) > 0 || answered(r.m) != was || mark(r.a) != all {
			r.t.Fatalf("through: %v; then %v, %v, %s, %v: %s", was, through, took, list(fresh), answered(r.m), state(r.a))
		}
	}
}

// allFresh asks the machine that was never asked for what is fresh: all that was taken is so, even with an error; and none of it is once more.
func (r run) allFresh() {
	r.t.Helper()
	if got := list(r.late.Fresh()); got != list(r.w.taken) {
		r.t.Fatalf("all that is fresh: %s; not %s", got, list(r.w.taken))
	}
	if again := r.late.Fresh(); len(again) > 0 || answered(r.late) != answered(r.m) {
		r.t.Fatalf("once more fresh: %s; %v; not %v", list(again), answered(r.late), answered(r.m))
	}
}

// finish does what is left, whatever its names are.
func (r run) finish() answer {
	r.t.Helper()
	for steps, through := 0, false; !through; steps++ {
		if steps > 500 {
			r.t.Fatalf("not through: %s", state(r.a))
		}
		through = r.step()
	}
	r.stays()
	r.allFresh()
	return answered(r.m)
}

// dice are numbers below a bound, the same ones at each run.
type dice uint64

func (d *dice) below(n int) int {
	x := uint64(*d)*6364136223846793005 + 1442695040888963407
	*d = dice(x)
	return int((x >> 33) % uint64(n))
}

// pick is one of some numbers.
func (d *dice) pick(l ...int) int { return l[d.below(len(l))] }

// text is a short one of a few kinds of bytes, so that texts are often near one another; now and then it is empty.
func (d *dice) text() []byte {
	b := make([]byte, d.pick(0, 1, 1, 1, 2, 2, 2, 2, 3, 3))
	for i := range b {
		b[i] = []byte{0, 'a', 'b', 'c', 128, 255}[d.below(6)]
	}
	return b
}
