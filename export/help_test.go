package export_test

import (
	"encoding/binary"
	"fmt"
	"slices"
	"strconv"
	"strings"
	"testing"

	"coppice/api"
	"coppice/arena"
	"coppice/export"
	"coppice/pipe"
)

// tree is what an arena is to have: how many slots, the number of the root, and the nodes of the slots from 1 on.
type tree struct {
	slots int
	root  int
	nodes []api.Node
}

func texts(l ...string) [][]byte {
	var out [][]byte
	for _, s := range l {
		out = append(out, []byte(s))
	}
	return out
}

// leaf is a leaf of some entries: keys and values by turns.
func leaf(high string, right int, entries ...string) api.Node {
	n := api.Node{Head: api.Head{High: []byte(high), Right: right}}
	for i := 0; i < len(entries); i += 2 {
		n.Keys, n.Values = append(n.Keys, []byte(entries[i])), append(n.Values, []byte(entries[i+1]))
	}
	return n
}

func inner(level int, high string, right int, keys [][]byte, kids ...int) api.Node {
	return api.Node{Head: api.Head{Level: level, High: []byte(high), Right: right}, Body: api.Body{Keys: keys, Kids: kids}}
}

// lone has one leaf.
func lone(entries ...string) tree { return tree{9, 1, []api.Node{leaf("", 0, entries...)}} }

// ab is the tree of the chapter's examples.
func ab() tree { return lone("a", "", "b", "") }

// small has two leaves and a root.
func small() tree {
	return tree{9, 3, []api.Node{
		leaf("m", 2, "b", "1", "d", "2"),
		leaf("", 0, "m", "3"),
		inner(1, "", 0, texts("m"), 1, 2),
	}}
}

// tall has three levels; 2 and 5 are nobody's children.
func tall() tree {
	return tree{20, 8, []api.Node{
		leaf("d", 2, "b", "1"),
		leaf("g", 3, "d", "2", "e", "", "f", "3"),
		leaf("m", 4, "h", "4"),
		leaf("p", 5, "m", "5"),
		leaf("", 0, "p", "6", "q", "7"),
		inner(1, "m", 7, texts("g"), 1, 3),
		inner(1, "", 0, nil, 4),
		inner(2, "", 0, texts("m"), 6, 7),
	}}
}

// many is a text for each number, all of one length.
func many(i int) string { return fmt.Sprintf("k%03d", i) }

// some are so many entries, keys and values by turns.
func some(count int) []string {
	var out []string
	for i := range count {
		out = append(out, many(i), strconv.Itoa(i))
	}
	return out
}

// row has leaves of these numbers of entries, one behind the other, under a root that knows the first one alone.
func row(counts ...int) tree {
	x := tree{slots: len(counts) + 1, root: len(counts) + 1}
	all, begun := some(999), 0
	for i, count := range counts {
		entries := all[2*begun : 2*(begun+count)]
		begun += count
		if i == len(counts)-1 {
			x.nodes = append(x.nodes, leaf("", 0, entries...))
		} else {
			x.nodes = append(x.nodes, leaf(many(begun), i+2, entries...))
		}
	}
	x.nodes = append(x.nodes, inner(1, "", 0, nil, 1))
	return x
}

// set is the tree in which a slot has another node.
func (x tree) set(id int, other api.Node) tree {
	x.nodes = slices.Clone(x.nodes)
	x.nodes[id-1] = other
	return x
}

// lay is a new arena that has the tree; no latch is held.
func (x tree) lay(t *testing.T) *arena.Arena {
	t.Helper()
	a, err := arena.New(x.slots)
	if err != api.OK {
		t.Fatalf("New: %d", err)
	}
	for i, n := range x.nodes {
		if i == 0 {
			hold(a, 1)
		} else {
			a.Alloc()
		}
		a.SetHead(i+1, n.Head)
		a.SetBody(i+1, n.Body)
		a.Unlock(i+1, true)
	}
	a.Grow(1, x.root)
	return a
}

// entries are those of the leaves, as they stand.
func (x tree) entries() []api.Entry {
	var out []api.Entry
	for _, n := range x.nodes {
		if n.Level == 0 {
			for i, key := range n.Keys {
				out = append(out, api.Entry{Key: key, Value: n.Values[i]})
			}
		}
	}
	return out
}

// hold takes a latch.
func hold(a *arena.Arena, id int) {
	word, _ := a.Word(id)
	a.Lock(id, word)
}

// lay makes a node another one, its latch being taken and given back.
func lay(a *arena.Arena, id int, n api.Node) {
	hold(a, id)
	a.SetHead(id, n.Head)
	a.SetBody(id, n.Body)
	a.Unlock(id, true)
}

// replace makes an arena another one, that has slot 1 alone: no other number is a node's any more.
func replace(a *arena.Arena) {
	other, _ := arena.New(1)
	*a = *other
}

func read(a *arena.Arena, id int) api.Node {
	head, _ := a.Head(id)
	body, _ := a.Body(id)
	return api.Node{Head: head, Body: body}
}

// nodes are an arena's nodes, in words; a list that is nil is told as one that is empty.
func nodes(a *arena.Arena) string {
	var s strings.Builder
	for id := 1; id <= a.Used(); id++ {
		n := read(a, id)
		fmt.Fprintf(&s, "%d: level %d, High %q, Right %d, keys %q, values %q, kids %d\n", id, n.Level, n.High, n.Right, n.Keys, n.Values, n.Kids)
	}
	return s.String()
}

// wordsOf are an arena's latches.
func wordsOf(a *arena.Arena) []uint64 {
	var out []uint64
	for id := 1; id <= a.Used(); id++ {
		word, _ := a.Word(id)
		out = append(out, word)
	}
	return out
}

// state is all that an arena tells, in words.
func state(a *arena.Arena) string {
	return fmt.Sprintf("used %d, left %d, root %d, held %d, words %d\n%s", a.Used(), a.Left(), a.Root(), a.Held(), wordsOf(a), nodes(a))
}

// mark is all that an arena tells, as bytes, so that arenas are soon held against one another.
func mark(a *arena.Arena) string {
	b := binary.AppendVarint(nil, int64(a.Left()))
	b = binary.AppendVarint(b, int64(a.Root()))
	for id := 1; id <= a.Used(); id++ {
		word, _ := a.Word(id)
		n := read(a, id)
		b = binary.AppendUvarint(b, word)
		b = markBody(markHead(b, n.Head), n.Body)
	}
	return string(b)
}

func markHead(b []byte, h api.Head) []byte {
	b = binary.AppendVarint(b, int64(h.Level))
	b = binary.AppendVarint(b, int64(h.Right))
	return markTexts(b, [][]byte{h.High})
}

func markBody(b []byte, x api.Body) []byte {
	b = markTexts(markTexts(b, x.Keys), x.Values)
	b = binary.AppendUvarint(b, uint64(len(x.Kids)))
	for _, kid := range x.Kids {
		b = binary.AppendVarint(b, int64(kid))
	}
	return b
}

func markTexts(b []byte, list [][]byte) []byte {
	b = binary.AppendUvarint(b, uint64(len(list)))
	for _, text := range list {
		b = append(binary.AppendUvarint(b, uint64(len(text))), text...)
	}
	return b
}

// list tells entries in short: b=1 d=2.
func list(l []api.Entry) string {
	var out []string
	for _, e := range l {
		out = append(out, bare(e.Key)+"="+bare(e.Value))
	}
	return strings.Join(out, " ")
}

func bare(text []byte) string {
	quoted := strconv.Quote(string(text))
	return quoted[1 : len(quoted)-1]
}

// mood says what a writer tells at a call of this number, from 1 on, when it is handed so many bytes.
type mood func(call int, handed int) (int, api.Errno)

// moody is a writer that tells whatever it was made to, and keeps what it was handed.
type moody struct {
	mood   mood
	handed []string
	took   []byte // of what it was handed: as much as it told, if that can be
}

func (w *moody) Write(p []byte) (int, api.Errno) {
	w.handed = append(w.handed, string(p))
	n, err := w.mood(len(w.handed), len(p))
	if 0 <= n && n <= len(p) {
		w.took = append(w.took, p[:n]...)
	}
	return n, err
}

// asTold is the mood of a sink that goes as it is told.
func asTold(takes []int, fail int) mood {
	return func(call int, handed int) (int, api.Errno) {
		switch {
		case fail > 0 && call >= fail:
			return 0, api.ErrPipeBroken
		case call <= len(takes):
			return min(handed, max(0, takes[call-1])), api.OK
		}
		return handed, api.OK
	}
}

// allTaken is the mood of one that takes all.
func allTaken(call int, handed int) (int, api.Errno) { return handed, api.OK }

// at is a mood that is another one at one call.
func (x mood) at(number int, other mood) mood {
	return func(call int, handed int) (int, api.Errno) {
		if call == number {
			return other(call, handed)
		}
		return x(call, handed)
	}
}

// always tells the same at each call.
func always(count int, err api.Errno) mood {
	return func(int, int) (int, api.Errno) { return count, err }
}

// Names of steps that often stand one behind the other: small letters are those of a scan's descent, great ones the other ones. A step that adds entries has their number behind a plus.
const (
	down  = "root word head body valid " // the root is read
	along = "word head body valid "      // one node more on the way down
	next  = "WORD HEAD BODY VALID "      // one leaf more
	push  = "PUSH "
)

// adds is some names whose last step adds so many entries.
func adds(names string, count int) string {
	return fmt.Sprintf("%s+%d ", strings.TrimSuffix(names, " "), count)
}

// ended is how a machine ended: by which error, and what it had sent then.
type ended struct {
	err            api.Errno
	entries, bytes int
}

func how(m *export.Machine) ended {
	entries, bytes := m.Sent()
	return ended{m.Answer(), entries, bytes}
}

// run is a machine on its way in an arena, with its writer, and the chapter's words on both.
type run struct {
	t    *testing.T
	a    *arena.Arena
	m    *export.Machine
	sink *moody
	w    *words
}

func start(t *testing.T, x tree, block int, f mood) run {
	t.Helper()
	return run{t: t, a: x.lay(t)}.next(block, f)
}

// next is a run of another machine in the same arena.
func (r run) next(block int, f mood) run {
	r.t.Helper()
	was := mark(r.a)
	r.sink = &moody{mood: f}
	r.m = export.New(r.a, block, r.sink)
	r.w = newWords(r.a, block, f)
	if how(r.m) != (ended{}) || len(r.sink.handed) > 0 || mark(r.a) != was {
		r.t.Fatalf("New: %v, %q", how(r.m), r.sink.handed)
	}
	return r
}

// step does one step of both: they must tell and hand on the same then, nothing be turned (P17.3), and what was written be the beginning of the stream of what was taken (P17.1).
func (r run) step() bool {
	r.t.Helper()
	name, was := r.w.name(), mark(r.a)
	through, took := r.m.Step()
	if mark(r.a) != was {
		r.t.Fatalf("%s turned something: %s", name, state(r.a))
	}
	if want := r.w.step(); took || through != want {
		r.t.Fatalf("%s: %v, %v; not %v, false: %s", name, through, took, want, state(r.a))
	}
	if how(r.m) != r.w.how() {
		r.t.Fatalf("%s: %v; not %v: %s", name, how(r.m), r.w.how(), state(r.a))
	}
	if !slices.Equal(r.sink.handed, r.w.sink.handed) {
		r.t.Fatalf("%s: handed on: %q; not %q", name, r.sink.handed, r.w.sink.handed)
	}
	if string(r.sink.took) != string(r.w.sure[:r.w.sent]) {
		r.t.Fatalf("%s: written: %q; not the beginning of %q", name, r.sink.took, r.w.sure)
	}
	return through
}

// on does the steps of these names, behind none of which the machine is through.
func (r run) on(names string) {
	r.t.Helper()
	for i, name := range strings.Fields(names) {
		if r.named(name) {
			r.t.Fatalf("through behind %d steps: %v", i+1, how(r.m))
		}
	}
}

// named does one step, which is to have this name.
func (r run) named(name string) bool {
	r.t.Helper()
	got, had := r.w.name(), len(r.w.added)
	through := r.step()
	if more := len(r.w.added) - had; more > 0 {
		got += "+" + strconv.Itoa(more)
	}
	if got != name {
		r.t.Fatalf("%s; not %s: %s", got, name, state(r.a))
	}
	return through
}

// ends does the steps of these names, behind the last of which the machine is through, with this error.
func (r run) ends(names string, want api.Errno) {
	r.t.Helper()
	l := strings.Fields(names)
	r.on(strings.Join(l[:len(l)-1], " "))
	if !r.named(l[len(l)-1]) {
		r.t.Fatalf("not through behind %d steps: %s", len(l), r.w.name())
	}
	if got := r.m.Answer(); got != want {
		r.t.Fatalf("%d; not %d", got, want)
	}
	r.stays()
}

// stays steps a machine on that is through: its writer is not called any more.
func (r run) stays() {
	r.t.Helper()
	was, all, calls := how(r.m), mark(r.a), len(r.sink.handed)
	for range 3 {
		through, took := r.m.Step()
		if !through || took || how(r.m) != was || mark(r.a) != all || len(r.sink.handed) != calls {
			r.t.Fatalf("through: %v; then %v, %v, %v: %s", was, through, took, how(r.m), state(r.a))
		}
	}
}

// finish does what is left, whatever its names are.
func (r run) finish() ended {
	r.t.Helper()
	for steps, through := 0, false; !through; steps++ {
		if steps > 20000 {
			r.t.Fatalf("not through: %s", state(r.a))
		}
		through = r.step()
	}
	r.stays()
	return how(r.m)
}

// exported is what a machine writes of an arena on which nobody works, into a sink that takes all.
func exported(t *testing.T, a *arena.Arena, block int) []byte {
	t.Helper()
	sink := pipe.NewSink(nil, 0)
	m := export.New(a, block, sink)
	through, took := false, false
	for steps := 0; !through; steps++ {
		if through, took = m.Step(); took || steps > 100000 {
			t.Fatalf("%v behind %d steps", took, steps)
		}
	}
	if err := m.Answer(); err != api.OK {
		t.Fatalf("error %d", err)
	}
	return sink.Bytes()
}

// dice are numbers below a bound, the same ones at each run.
type dice uint64

func (d *dice) below(n int) int {
	x := uint64(*d)*6364136223846793005 + 1442695040888963407
	*d = dice(x)
	return int((x >> 33) % uint64(n))
}

// pick is one of some numbers.
func (d *dice) pick(l ...int) int { return l[d.below(len(l))] }

// text is a short one of a few kinds of bytes, so that texts are often near one another.
func (d *dice) text() []byte {
	b := make([]byte, d.pick(1, 1, 1, 2, 2, 2, 2, 3, 3))
	for i := range b {
		b[i] = []byte{0, 'a', 'b', 'c', 128, 255}[d.below(6)]
	}
	return b
}

// mood is one of any kind: of a sink, or of a writer that tells what it likes at some of its calls.
func (d *dice) mood() mood {
	var takes []int
	for range d.pick(0, 0, 1, 3, 20, 40) {
		takes = append(takes, d.pick(0, 0, 1, 1, 2, 3, 7, 20, 5000, -1))
	}
	x := asTold(takes, d.pick(0, 0, 0, 0, 0, 1, 2, 3, 4, 9))
	seed := uint64(d.below(1 << 30))
	switch d.below(8) {
	case 0, 1, 2, 3, 4:
		return x
	case 5: // from some call on it takes nothing
		tired := d.below(12)
		return func(call int, handed int) (int, api.Errno) {
			if call > tired {
				return 0, api.OK
			}
			return x(call, handed)
		}
	}
	return func(call int, handed int) (int, api.Errno) {
		own := dice(seed + uint64(call))
		own.below(2)
		switch own.below(12) {
		case 0:
			return own.pick(-1, handed+1, 0, 0, handed/2, handed, handed), api.Errno(own.pick(0, 0, 1, 1, 31, 32, -5, -5))
		case 1, 2, 3:
			return own.below(handed + 1), api.OK
		}
		return x(call, handed)
	}
}
