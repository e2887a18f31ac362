package get_test

import (
	"fmt"
	"slices"
	"strings"
	"testing"

	"coppice/api"
	"coppice/arena"
	"coppice/get"
)

// tree is what an arena is to have: the number of the root, and the nodes of the slots from 1 on.
type tree struct {
	root  int
	nodes []api.Node
}

func texts(l ...string) [][]byte {
	var out [][]byte
	for _, s := range l {
		out = append(out, []byte(s))
	}
	return out
}

// leaf is a leaf of some entries: keys and values by turns.
func leaf(high string, right int, entries ...string) api.Node {
	n := api.Node{Head: api.Head{High: []byte(high), Right: right}}
	for i := 0; i < len(entries); i += 2 {
		n.Keys, n.Values = append(n.Keys, []byte(entries[i])), append(n.Values, []byte(entries[i+1]))
	}
	return n
}

func inner(level int, high string, right int, keys [][]byte, kids ...int) api.Node {
	return api.Node{Head: api.Head{Level: level, High: []byte(high), Right: right}, Body: api.Body{Keys: keys, Kids: kids}}
}

// lone is the tree of the chapter's examples.
func lone() tree { return tree{1, []api.Node{leaf("", 0, "a", "1", "c", "3")}} }

// small has two leaves and a root.
func small() tree {
	return tree{3, []api.Node{
		leaf("m", 2, "a", "1"),
		leaf("", 0, "m", "2", "z", "3"),
		inner(1, "", 0, texts("m"), 1, 2),
	}}
}

// tall has three levels; 2 and 5 are nobody's children.
func tall() tree {
	return tree{8, []api.Node{
		leaf("d", 2, "b", "1"),
		leaf("g", 3, "d", "2", "e", ""),
		leaf("m", 4, "h", "4"),
		leaf("p", 5, "m", "5"),
		leaf("", 0, "p", "6", "q", "7"),
		inner(1, "m", 7, texts("g"), 1, 3),
		inner(1, "", 0, nil, 4),
		inner(2, "", 0, texts("m"), 6, 7),
	}}
}

// set is the tree in which a slot has another node.
func (x tree) set(id int, other api.Node) tree {
	x.nodes = slices.Clone(x.nodes)
	x.nodes[id-1] = other
	return x
}

// lay is a new arena of 40 slots that has the tree; no latch is held.
func (x tree) lay(t *testing.T) *arena.Arena {
	t.Helper()
	a := newArena(t)
	for i, n := range x.nodes {
		if i == 0 {
			hold(t, a, 1)
		} else {
			a.Alloc()
		}
		a.SetHead(i+1, n.Head)
		a.SetBody(i+1, n.Body)
		give(t, a, i+1, true)
	}
	grow(t, a, x.root)
	return a
}

func newArena(t *testing.T) *arena.Arena {
	t.Helper()
	return arenaOf(t, 40)
}

func arenaOf(t *testing.T, nodes int) *arena.Arena {
	t.Helper()
	a, err := arena.New(nodes)
	if err != api.OK {
		t.Fatalf("New: %d", err)
	}
	return a
}

// hold takes a latch, give gives it back.
func hold(t *testing.T, a *arena.Arena, id int) {
	t.Helper()
	word, _ := a.Word(id)
	if is, err := a.Lock(id, word); !is || err != api.OK {
		t.Fatalf("Lock(%d, %d): %v, %d", id, word, is, err)
	}
}

func give(t *testing.T, a *arena.Arena, id int, changed bool) {
	t.Helper()
	if err := a.Unlock(id, changed); err != api.OK {
		t.Fatalf("Unlock(%d): %d", id, err)
	}
}

// put makes a node another one, its latch being taken and given back.
func put(t *testing.T, a *arena.Arena, id int, n api.Node, changed bool) {
	t.Helper()
	hold(t, a, id)
	a.SetHead(id, n.Head)
	a.SetBody(id, n.Body)
	give(t, a, id, changed)
}

func grow(t *testing.T, a *arena.Arena, root int) {
	t.Helper()
	if is, err := a.Grow(a.Root(), root); !is || err != api.OK {
		t.Fatalf("Grow(%d): %v, %d", root, is, err)
	}
}

func read(a *arena.Arena, id int) api.Node {
	head, _ := a.Head(id)
	body, _ := a.Body(id)
	return api.Node{Head: head, Body: body}
}

// told is a node in words; a list that is nil is told as one that is empty.
func told(n api.Node) string {
	return fmt.Sprintf("level %d, High %q, Right %d, keys %q, values %q, kids %d", n.Level, n.High, n.Right, n.Keys, n.Values, n.Kids)
}

// state is all that an arena tells, in words.
func state(a *arena.Arena) string {
	var s strings.Builder
	fmt.Fprintf(&s, "used %d, left %d, root %d, held %d\n", a.Used(), a.Left(), a.Root(), a.Held())
	for id := 1; id <= a.Used(); id++ {
		word, _ := a.Word(id)
		fmt.Fprintf(&s, "%d: %d; %s\n", id, word, told(read(a, id)))
	}
	return s.String()
}

// answer is what a machine answers.
type answer struct {
	value string
	there bool
	err   api.Errno
}

func (x answer) String() string { return fmt.Sprintf("%q, %v, %d", x.value, x.there, x.err) }

func found(value string) answer { return answer{value: value, there: true} }

func failed(err api.Errno) answer { return answer{err: err} }

func answered(m *get.Machine) answer {
	value, there, err := m.Answer()
	return answer{string(value), there, err}
}

// look is a machine on its way in an arena.
type look struct {
	t *testing.T
	a *arena.Arena
	m *get.Machine
}

func start(t *testing.T, a *arena.Arena, key string) look {
	t.Helper()
	was := state(a)
	l := look{t, a, get.New(a, []byte(key))}
	if got := answered(l.m); got != (answer{}) || state(a) != was {
		t.Fatalf("New: %v; %s\nfrom %s", got, state(a), was)
	}
	return l
}

// step does one step. Neither it nor Answer turns anything (P13.2), and a machine that is not through has neither taken effect nor an answer.
func (l look) step() (bool, bool) {
	l.t.Helper()
	was := state(l.a)
	through, took := l.m.Step()
	got := answered(l.m)
	if now := state(l.a); now != was {
		l.t.Fatalf("a step turned %s\nto %s", was, now)
	}
	if !through && (took || got != answer{}) {
		l.t.Fatalf("on its way: took effect: %v; %v", took, got)
	}
	return through, took
}

// on does so many steps, behind none of which the machine is through.
func (l look) on(steps int) {
	l.t.Helper()
	for i := range steps {
		if through, _ := l.step(); through {
			l.t.Fatalf("through behind %d steps: %v", i+1, answered(l.m))
		}
	}
}

// counts holds Again and Right against what they are to be.
func (l look) counts(again, right int) {
	l.t.Helper()
	if l.m.Again() != again || l.m.Right() != right {
		l.t.Fatalf("again %d, right %d; not %d, %d", l.m.Again(), l.m.Right(), again, right)
	}
}

// ends does so many steps, behind the last of which the machine is through, with this answer. It took effect there, unless there was no node.
func (l look) ends(steps int, want answer) {
	l.t.Helper()
	l.on(steps - 1)
	through, took := l.step()
	if !through {
		l.t.Fatalf("not through behind %d steps", steps)
	}
	if got := answered(l.m); got != want || took != (want.err != api.ErrArenaNode) {
		l.t.Fatalf("%v, took effect: %v; not %v", got, took, want)
	}
	l.stays()
}

// stays steps a machine on that is through.
func (l look) stays() {
	l.t.Helper()
	was := answered(l.m)
	for range 3 {
		if through, took := l.step(); !through || took || answered(l.m) != was {
			l.t.Fatalf("through: %v; then %v, %v, %v", was, through, took, answered(l.m))
		}
	}
}

// dice are numbers below a bound, the same ones at each run.
type dice uint64

func (d *dice) below(n int) int {
	x := uint64(*d)*6364136223846793005 + 1442695040888963407
	*d = dice(x)
	return int((x >> 33) % uint64(n))
}

// pick is one of some numbers.
func (d *dice) pick(l ...int) int { return l[d.below(len(l))] }

// text is a short one of a few kinds of bytes, so that texts are often near one another; now and then it is empty.
func (d *dice) text() []byte {
	b := make([]byte, d.pick(0, 1, 1, 1, 2, 2, 2, 2, 3, 3))
	for i := range b {
		b[i] = []byte{0, 'a', 'b', 'c', 128, 255}[d.below(6)]
	}
	return b
}
