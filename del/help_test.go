package del_test

import (
	"encoding/binary"
	"fmt"
	"slices"
	"strings"
	"testing"

	"coppice/api"
	"coppice/arena"
	"coppice/del"
)

// tree is what an arena is to have: how many slots, the number of the root, and the nodes of the slots from 1 on.
type tree struct {
	slots int
	root  int
	nodes []api.Node
}

func texts(l ...string) [][]byte {
	var out [][]byte
	for _, s := range l {
		out = append(out, []byte(s))
	}
	return out
}

// leaf is a leaf of some entries: keys and values by turns.
func leaf(high string, right int, entries ...string) api.Node {
	n := api.Node{Head: api.Head{High: []byte(high), Right: right}}
	for i := 0; i < len(entries); i += 2 {
		n.Keys, n.Values = append(n.Keys, []byte(entries[i])), append(n.Values, []byte(entries[i+1]))
	}
	return n
}

func inner(level int, high string, right int, keys [][]byte, kids ...int) api.Node {
	return api.Node{Head: api.Head{Level: level, High: []byte(high), Right: right}, Body: api.Body{Keys: keys, Kids: kids}}
}

// lone has one leaf.
func lone(entries ...string) tree { return tree{9, 1, []api.Node{leaf("", 0, entries...)}} }

// small has two leaves and a root.
func small() tree {
	return tree{9, 3, []api.Node{
		leaf("m", 2, "b", "1", "d", "2"),
		leaf("", 0, "m", "3"),
		inner(1, "", 0, texts("m"), 1, 2),
	}}
}

// tall has three levels; 2 and 5 are nobody's children.
func tall() tree {
	return tree{20, 8, []api.Node{
		leaf("d", 2, "b", "1"),
		leaf("g", 3, "d", "2", "e", "", "f", "3"),
		leaf("m", 4, "h", "4"),
		leaf("p", 5, "m", "5"),
		leaf("", 0, "p", "6", "q", "7"),
		inner(1, "m", 7, texts("g"), 1, 3),
		inner(1, "", 0, nil, 4),
		inner(2, "", 0, texts("m"), 6, 7),
	}}
}

// set is the tree in which a slot has another node.
func (x tree) set(id int, other api.Node) tree {
	x.nodes = slices.Clone(x.nodes)
	x.nodes[id-1] = other
	return x
}

// lay is a new arena that has the tree; no latch is held.
func (x tree) lay(t *testing.T) *arena.Arena {
	t.Helper()
	a, err := arena.New(x.slots)
	if err != api.OK {
		t.Fatalf("New: %d", err)
	}
	for i, n := range x.nodes {
		if i == 0 {
			hold(a, 1)
		} else {
			a.Alloc()
		}
		a.SetHead(i+1, n.Head)
		a.SetBody(i+1, n.Body)
		a.Unlock(i+1, true)
	}
	a.Grow(1, x.root)
	return a
}

// hold takes a latch.
func hold(a *arena.Arena, id int) {
	word, _ := a.Word(id)
	a.Lock(id, word)
}

// lay makes a node another one, its latch being taken and given back.
func lay(a *arena.Arena, id int, n api.Node) {
	hold(a, id)
	a.SetHead(id, n.Head)
	a.SetBody(id, n.Body)
	a.Unlock(id, true)
}

func read(a *arena.Arena, id int) api.Node {
	head, _ := a.Head(id)
	body, _ := a.Body(id)
	return api.Node{Head: head, Body: body}
}

// told is a node in words; a list that is nil is told as one that is empty.
func told(n api.Node) string {
	return fmt.Sprintf("level %d, High %q, Right %d, keys %q, values %q, kids %d", n.Level, n.High, n.Right, n.Keys, n.Values, n.Kids)
}

// nodes are an arena's nodes, in words.
func nodes(a *arena.Arena) string {
	var s strings.Builder
	for id := 1; id <= a.Used(); id++ {
		fmt.Fprintf(&s, "%d: %s\n", id, told(read(a, id)))
	}
	return s.String()
}

// wordsOf are an arena's latches.
func wordsOf(a *arena.Arena) []uint64 {
	var out []uint64
	for id := 1; id <= a.Used(); id++ {
		word, _ := a.Word(id)
		out = append(out, word)
	}
	return out
}

// state is all that an arena tells, in words.
func state(a *arena.Arena) string {
	return fmt.Sprintf("used %d, left %d, root %d, held %d, words %d\n%s", a.Used(), a.Left(), a.Root(), a.Held(), wordsOf(a), nodes(a))
}

// mark is all that an arena tells, as bytes, so that arenas are soon held against one another.
func mark(a *arena.Arena) string {
	b := binary.AppendVarint(nil, int64(a.Left()))
	b = binary.AppendVarint(b, int64(a.Root()))
	for id := 1; id <= a.Used(); id++ {
		word, _ := a.Word(id)
		n := read(a, id)
		b = binary.AppendUvarint(b, word)
		b = markBody(markHead(b, n.Head), n.Body)
	}
	return string(b)
}

func markHead(b []byte, h api.Head) []byte {
	b = binary.AppendVarint(b, int64(h.Level))
	b = binary.AppendVarint(b, int64(h.Right))
	return markTexts(b, [][]byte{h.High})
}

func markBody(b []byte, x api.Body) []byte {
	b = markTexts(markTexts(b, x.Keys), x.Values)
	b = binary.AppendUvarint(b, uint64(len(x.Kids)))
	for _, kid := range x.Kids {
		b = binary.AppendVarint(b, int64(kid))
	}
	return b
}

func markTexts(b []byte, list [][]byte) []byte {
	b = binary.AppendUvarint(b, uint64(len(list)))
	for _, text := range list {
		b = append(binary.AppendUvarint(b, uint64(len(text))), text...)
	}
	return b
}

// answer is what a machine answers.
type answer struct {
	there bool
	err   api.Errno
}

// What most deletions answer: the key was there, or it was not.
var (
	gone    = answer{there: true}
	missing = answer{}
)

func failed(err api.Errno) answer { return answer{err: err} }

func answered(m *del.Machine) answer {
	there, err := m.Answer()
	return answer{there, err}
}

// Names of steps that often stand one behind the other; a star marks the step at which the machine takes effect.
const (
	down  = "ROOT WORD HEAD BODY VALID "  // the root is read
	along = "WORD HEAD BODY VALID "       // one node more
	none  = "ROOT WORD HEAD BODY VALID* " // the root is read, and is a leaf without the key
	miss  = "WORD HEAD BODY VALID* "      // one node more, which is a leaf without the key
	take  = "LOCK BODY FREE*"
)

// count is how many steps some names are.
func count(names string) int { return len(strings.Fields(names)) }

// run is a machine on its way in an arena, and the chapter's words on theirs in another one that is like it.
type run struct {
	t    *testing.T
	a, b *arena.Arena
	m    *del.Machine
	w    *words
}

func start(t *testing.T, x tree, key string) run {
	t.Helper()
	r := run{t: t, a: x.lay(t), b: x.lay(t)}.next(key)
	if got := answered(r.m); got != missing || mark(r.a) != mark(r.b) {
		t.Fatalf("New: %v; %s\nfrom %s", got, state(r.a), state(r.b))
	}
	return r
}

// next is a run of another machine in the same arena.
func (r run) next(key string) run {
	r.m, r.w = del.New(r.a, []byte(key)), newWords(r.b, key)
	return r
}

// turn does something in both arenas.
func (r run) turn(do func(a *arena.Arena)) {
	do(r.a)
	do(r.b)
}

// step does one step of both: they must tell the same then, and the arenas be alike. A machine that is not through has no answer.
func (r run) step() (bool, bool) {
	r.t.Helper()
	name := r.w.next
	through, took := r.m.Step()
	wantThrough, wantTook := r.w.step()
	if mark(r.a) != mark(r.b) {
		r.t.Fatalf("%s: %s\nnot %s", name, state(r.a), state(r.b))
	}
	if got := answered(r.m); through != wantThrough || took != wantTook || got != r.w.told || !through && got != missing {
		r.t.Fatalf("%s: %v, %v, %v; not %v, %v, %v: %s", name, through, took, got, wantThrough, wantTook, r.w.told, state(r.a))
	}
	return through, took
}

// on does the steps of these names, behind none of which the machine is through.
func (r run) on(names string) {
	r.t.Helper()
	for i, name := range strings.Fields(names) {
		if through := r.named(name); through {
			r.t.Fatalf("through behind %d steps: %v", i+1, answered(r.m))
		}
	}
}

// named does one step, which is to have this name, with a star if it is to take effect.
func (r run) named(name string) bool {
	r.t.Helper()
	got := r.w.next
	through, took := r.step()
	if took {
		got += "*"
	}
	if got != name {
		r.t.Fatalf("%s; not %s: %s", got, name, state(r.a))
	}
	return through
}

// ends does the steps of these names, behind the last of which the machine is through, with this answer.
func (r run) ends(names string, want answer) {
	r.t.Helper()
	list := strings.Fields(names)
	r.on(strings.Join(list[:len(list)-1], " "))
	if !r.named(list[len(list)-1]) {
		r.t.Fatalf("not through behind %d steps: %s", len(list), r.w.next)
	}
	if got := answered(r.m); got != want {
		r.t.Fatalf("%v; not %v", got, want)
	}
	r.stays()
}

// stays steps a machine on that is through.
func (r run) stays() {
	r.t.Helper()
	was, all := answered(r.m), mark(r.a)
	for range 3 {
		if through, took := r.m.Step(); !through || took || answered(r.m) != was || mark(r.a) != all {
			r.t.Fatalf("through: %v; then %v, %v, %v: %s", was, through, took, answered(r.m), state(r.a))
		}
	}
}

// finish does what is left, whatever its names are.
func (r run) finish() answer {
	r.t.Helper()
	for steps, through := 0, false; !through; steps++ {
		if steps > 500 {
			r.t.Fatalf("not through: %s", state(r.a))
		}
		through, _ = r.step()
	}
	r.stays()
	return answered(r.m)
}

// is holds the arena against a tree: its root, its nodes, how many slots are taken; and no latch is held.
func (r run) is(want tree) {
	r.t.Helper()
	var s strings.Builder
	for i, n := range want.nodes {
		fmt.Fprintf(&s, "%d: %s\n", i+1, told(n))
	}
	if nodes(r.a) != s.String() || r.a.Root() != want.root || len(r.a.Held()) > 0 {
		r.t.Fatalf("root %d, held %d\n%snot root %d\n%s", r.a.Root(), r.a.Held(), nodes(r.a), want.root, s.String())
	}
}

// dice are numbers below a bound, the same ones at each run.
type dice uint64

func (d *dice) below(n int) int {
	x := uint64(*d)*6364136223846793005 + 1442695040888963407
	*d = dice(x)
	return int((x >> 33) % uint64(n))
}

// pick is one of some numbers.
func (d *dice) pick(l ...int) int { return l[d.below(len(l))] }

// text is a short one of a few kinds of bytes, so that texts are often near one another; now and then it is empty.
func (d *dice) text() []byte {
	b := make([]byte, d.pick(0, 1, 1, 1, 2, 2, 2, 2, 3, 3))
	for i := range b {
		b[i] = []byte{0, 'a', 'b', 'c', 128, 255}[d.below(6)]
	}
	return b
}
