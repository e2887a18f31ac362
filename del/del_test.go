package del_test

import (
	"bytes"
	"fmt"
	"slices"
	"strings"
	"testing"

	"coppice/api"
	"coppice/arena"
	"coppice/del"
	"coppice/descent"
	"coppice/put"
	"coppice/shape"
)

// The rows of the chapter's table of examples.
func TestExamples(t *testing.T) {
	x := lone("a", "1", "c", "3")
	r := start(t, x, "c")
	r.ends("ROOT WORD HEAD BODY VALID LOCK BODY FREE*", gone)
	r.is(lone("a", "1"))

	r = start(t, x, "b")
	was := state(r.a)
	r.ends("ROOT WORD HEAD BODY VALID*", missing)
	if state(r.a) != was || wordsOf(r.a)[0] != 2 {
		t.Fatalf("%s\nnot %s", state(r.a), was)
	}
	start(t, x, strings.Repeat("k", 65)).ends("ARGS*", failed(api.ErrLong))

	for _, row := range []struct {
		key   string
		steps int
		want  answer
	}{{"c", 8, gone}, {"b", 5, missing}, {strings.Repeat("k", 65), 1, failed(api.ErrLong)}} {
		m := del.New(x.lay(t), []byte(row.key))
		for range row.steps - 1 {
			if through, took := m.Step(); through || took {
				t.Fatalf("%q, on its way: %v, %v", row.key, through, took)
			}
		}
		if through, took := m.Step(); !through || !took || answered(m) != row.want {
			t.Errorf("%q, its last step: %v, %v, %v", row.key, through, took, answered(m))
		}
		if through, took := m.Step(); !through || took || answered(m) != row.want {
			t.Errorf("%q, one step more: %v, %v, %v", row.key, through, took, answered(m))
		}
	}
}

// The document's example 3 of the whole: of a, b and c, the key b goes; the tree is sound, and not packed any more.
func TestExampleOfTheWhole(t *testing.T) {
	c := two()
	a, _ := arena.New(c.Nodes)
	for i, key := range []string{"a", "b", "c"} {
		m := put.New(a, c, []byte(key), []byte{byte('1' + i)})
		for through := false; !through; through, _ = m.Step() {
		}
	}
	if !shape.Packed(a, c) {
		t.Fatalf("not packed: %s", state(a))
	}
	m := del.New(a, []byte("b"))
	for through := false; !through; through, _ = m.Step() {
	}
	want := api.Report{Sound: true, Levels: 2, Nodes: 3, Entries: 2}
	if got := shape.Check(a, c); answered(m) != gone || got != want || shape.Packed(a, c) {
		t.Fatalf("%v, %+v, packed: %v", answered(m), got, shape.Packed(a, c))
	}
}

// Each row of the chapter's table of steps, by what stands in the arena behind it.
func TestEachStep(t *testing.T) {
	r := start(t, small(), "b")
	want := slices.Clone(small().nodes)
	words := []uint64{2, 2, 2}
	behind := func(names string) {
		t.Helper()
		for _, name := range strings.Fields(names) {
			r.named(name)
			for i, n := range want {
				if got := told(read(r.a, i+1)); got != told(n) {
					t.Fatalf("%s: %d: %s; not %s", name, i+1, got, told(n))
				}
			}
			if got := wordsOf(r.a); !slices.Equal(got, words) || r.a.Root() != 3 {
				t.Fatalf("%s: words %d, root %d; not %d", name, got, r.a.Root(), words)
			}
		}
	}
	behind(down + along)
	words[0] = 3
	behind("LOCK")
	want[0].Body = leaf("", 0, "d", "2").Body
	behind("BODY")
	words[0] = 4
	behind("FREE*")
	if got := answered(r.m); got != gone {
		t.Fatalf("%v", got)
	}
	r.stays()
	r.is(small().set(1, leaf("m", 2, "d", "2")))
}

// Keys at both ends of what may be, and beyond.
func TestKeyLengths(t *testing.T) {
	most := strings.Repeat("k", 64)
	for _, key := range []string{"\x00", "k", "\xff", most, strings.Repeat("\x00", 64), strings.Repeat("\xff", 64)} {
		r := start(t, lone(key, "1"), key)
		r.ends(down+take, gone)
		r.is(lone())
		r.next(key).ends(none, missing)
		r.is(lone())
	}
	start(t, lone(most, "1"), most[:63]).ends(none, missing)
	start(t, lone(most[:63], "1"), most).ends(none, missing)
	for _, key := range []string{"", most + "k", strings.Repeat("k", 66), strings.Repeat("k", 256), strings.Repeat("k", 1<<20)} {
		r := start(t, lone("a", "1"), key)
		r.ends("ARGS*", failed(api.ErrLong))
		r.is(lone("a", "1"))
	}
	m := del.New(lone("a", "1").lay(t), nil)
	if through, took := m.Step(); !through || !took || answered(m) != failed(api.ErrLong) {
		t.Fatalf("%v, %v, %v", through, took, answered(m))
	}
}

// A key that may not be is refused whatever the tree is, even if the tree has it, and nothing is read: there need not even be an arena.
func TestWrongFirst(t *testing.T) {
	for _, key := range []string{"", strings.Repeat("k", 65)} {
		r := start(t, lone(key, "1"), key)
		r.ends("ARGS*", failed(api.ErrLong))
		r.is(lone(key, "1"))
		start(t, tree{9, 1, []api.Node{inner(1, "", 0, nil)}}, key).ends("ARGS*", failed(api.ErrLong))
		r = start(t, lone("a", "1"), key)
		r.turn(func(a *arena.Arena) { hold(a, 1) })
		r.ends("ARGS*", failed(api.ErrLong))

		m := del.New(nil, []byte(key))
		if got := answered(m); got != missing {
			t.Fatalf("ahead of the step: %v", got)
		}
		if through, took := m.Step(); !through || !took || answered(m) != failed(api.ErrLong) {
			t.Fatalf("%v, %v, %v", through, took, answered(m))
		}
		if through, took := m.Step(); !through || took || answered(m) != failed(api.ErrLong) {
			t.Fatalf("one step more: %v, %v, %v", through, took, answered(m))
		}
	}
}

// P3: a key that is handed in is not kept: whoever changes it later, at any step or behind the end, changes nothing. Nor is it, or its spare room, written to.
func TestHandedIn(t *testing.T) {
	x := lone("b", "1", "c", "2", "z", "3")
	ahead := down + "LOCK " // false: a descent begins anew then
	names := ahead + down + take
	for steps := range count(names) + 1 {
		a := x.lay(t)
		key := []byte("c and more")
		m := del.New(a, key[:1])
		for i := range count(names) {
			if i == steps {
				copy(key, "zzzzzzzzzz")
			}
			if i == count(down) {
				lay(a, 1, read(a, 1))
			}
			m.Step()
		}
		if want := "zzzzzzzzzz"; steps < count(names) && string(key) != want || steps == count(names) && string(key) != "c and more" {
			t.Fatalf("the key and its spare room: %q", key)
		}
		copy(key, "zzzzzzzzzz")
		if got := told(read(a, 1)); got != told(leaf("", 0, "b", "1", "z", "3")) || answered(m) != gone {
			t.Fatalf("changed behind %d steps: %v, %s", steps, answered(m), got)
		}
	}
	wrong := bytes.Repeat([]byte("c"), 65)
	m := del.New(x.lay(t), wrong)
	copy(wrong, "b")
	if _, took := m.Step(); !took || answered(m) != failed(api.ErrLong) {
		t.Fatalf("%v", answered(m))
	}
}

// Keys that are there, and that are not, at all places of an ordinary tree: the first of their leaf, the last, the only one, one between.
func TestThereOrNot(t *testing.T) {
	three := down + along + along
	for _, x := range []struct {
		key   string
		names string
		want  answer
		id    int
		leaf  api.Node
	}{
		{"b", three, gone, 1, leaf("d", 2)},
		{"d", three + along, gone, 2, leaf("g", 3, "e", "", "f", "3")},
		{"e", three + along, gone, 2, leaf("g", 3, "d", "2", "f", "3")},
		{"f", three + along, gone, 2, leaf("g", 3, "d", "2", "e", "")},
		{"h", three, gone, 3, leaf("m", 4)},
		{"m", three, gone, 4, leaf("p", 5)},
		{"p", three + along, gone, 5, leaf("", 0, "q", "7")},
		{"q", three + along, gone, 5, leaf("", 0, "p", "6")},
	} {
		r := start(t, tall(), x.key)
		r.ends(x.names+take, x.want)
		r.is(tall().set(x.id, x.leaf))
		// Once more: it is gone.
		r.next(x.key).ends(strings.TrimSuffix(x.names, along)+miss, missing)
		r.is(tall().set(x.id, x.leaf))
	}
	two := down + along
	for key, names := range map[string]string{
		"a": two + miss, "\x00": two + miss, "b\x00": two + miss, "c\xff": two + miss,
		"d\x00": two + along + miss, "ee": two + along + miss, "f\xff": two + along + miss,
		"g": two + miss, "hh": two + miss, "l\xff": two + miss,
		"m\x00": two + miss, "o": two + miss,
		"p\x00": two + along + miss, "z": two + along + miss, "\xff": two + along + miss,
	} {
		r := start(t, tall(), key)
		was := state(r.a)
		r.ends(names, missing)
		if state(r.a) != was {
			t.Fatalf("%q: %s\nnot %s", key, state(r.a), was)
		}
	}
	start(t, lone(), "k").ends(none, missing)
}

// many is a text for each number, all of one length.
func many(i int) string { return fmt.Sprintf("k%03d", i) }

// A key at each place of leaves of all sizes.
func TestEachPlace(t *testing.T) {
	for size := 1; size <= 64; size++ {
		var entries []string
		for i := range size {
			entries = append(entries, many(i), fmt.Sprint(i))
		}
		for _, at := range []int{0, 1, size / 2, size - 2, size - 1} {
			if at < 0 || at >= size {
				continue
			}
			r := start(t, lone(entries...), many(at))
			r.ends(down+take, gone)
			r.is(lone(slices.Delete(slices.Clone(entries), 2*at, 2*at+2)...))
		}
	}
}

// Keys of inner nodes lead the way: they are nobody's entries.
func TestInnerKeys(t *testing.T) {
	x := small().set(2, leaf("", 0, "z", "3"))
	r := start(t, x, "m")
	was := state(r.a)
	r.ends(down+miss, missing)
	if state(r.a) != was {
		t.Fatalf("%s\nnot %s", state(r.a), was)
	}
	r = start(t, small(), "m")
	r.ends(down+along+take, gone)
	r.is(small().set(2, leaf("", 0)))
}

// Leaves never join, and never go: a tree all of whose keys are taken away has the nodes that it had, and takes keys as before.
func TestLeavesStay(t *testing.T) {
	r := start(t, tall(), "b")
	for _, key := range []string{"b", "d", "e", "f", "h", "m", "p", "q"} {
		if got := r.next(key).finish(); got != gone {
			t.Fatalf("%q: %v", key, got)
		}
		if got := r.next(key).finish(); got != missing {
			t.Fatalf("%q, once more: %v", key, got)
		}
	}
	want := tall()
	for id := 1; id <= 5; id++ {
		n := want.nodes[id-1]
		n.Body = api.Body{}
		want = want.set(id, n)
	}
	r.is(want)
	c := api.Config{Nodes: 20, Leaf: 3, Inner: 3, Fill: 2, Block: 4}
	if got := shape.Check(r.a, c); !got.Sound || got.Nodes != 8 || got.Entries != 0 {
		t.Fatalf("%+v", got)
	}
	for _, key := range []string{"a", "e", "z"} {
		m := put.New(r.a, c, []byte(key), []byte("9"))
		for through := false; !through; through, _ = m.Step() {
		}
	}
	if got := shape.Check(r.a, c); !got.Sound || got.Nodes != 8 || got.Entries != 3 {
		t.Fatalf("%+v", got)
	}
}

// LOCK that is false: the leaf was turned, or is held; DOWN begins anew, with the root. The key is still there, or gone.
func TestLockFalse(t *testing.T) {
	r := start(t, lone("b", "1", "c", "2"), "c")
	for i := range 20 {
		r.on(down)
		r.turn(func(a *arena.Arena) { lay(a, 1, leaf("", 0, "b", fmt.Sprint(i), "c", "2")) })
		r.on("LOCK")
		if held := r.a.Held(); len(held) > 0 {
			t.Fatalf("held: %d", held)
		}
	}
	r.ends(down+take, gone)
	r.is(lone("b", "19"))

	r = start(t, lone("b", "1", "c", "2"), "c")
	r.on(down)
	r.turn(func(a *arena.Arena) { lay(a, 1, leaf("", 0, "b", "1", "d", "3")) })
	was := state(r.a)
	r.ends("LOCK "+none, missing)
	if state(r.a) != was {
		t.Fatalf("%s\nnot %s", state(r.a), was)
	}

	r = start(t, lone("b", "1", "c", "2"), "c")
	r.on(down)
	r.turn(func(a *arena.Arena) { hold(a, 1) })
	r.on("LOCK ROOT WORD WORD WORD WORD")
	r.turn(func(a *arena.Arena) { a.Unlock(1, true) })
	r.ends(along+take, gone)
	r.is(lone("b", "1"))

	// A latch that was held meanwhile, and given back as it was, is taken.
	r = start(t, lone("b", "1", "c", "2"), "c")
	r.on(down)
	r.turn(func(a *arena.Arena) { hold(a, 1); a.Unlock(1, false) })
	r.ends(take, gone)
}

// Two deletions of one key: one of them takes it away.
func TestTwiceAtOnce(t *testing.T) {
	one := start(t, lone("b", "1", "c", "2"), "c")
	other := one.next("c")
	one.on(down)
	other.on(down)
	one.ends(take, gone)
	other.ends("LOCK "+none, missing)
	one.is(lone("b", "1"))

	// Another key of the leaf: both go.
	one = start(t, lone("b", "1", "c", "2"), "c")
	other = one.next("b")
	one.on(down)
	other.on(down)
	one.on("LOCK")
	other.on("LOCK ROOT WORD WORD")
	one.on("BODY")
	other.on("WORD")
	one.ends("FREE*", gone)
	other.ends(along+take, gone)
	one.is(lone())
}

// A key that comes while the machine is on its way: it is seen, if its leaf was not read yet.
func TestKeyComes(t *testing.T) {
	for steps := range 5 {
		r := start(t, lone("b", "1"), "c")
		list := strings.Fields(down)
		r.on(strings.Join(list[:steps], " "))
		r.turn(func(a *arena.Arena) { lay(a, 1, leaf("", 0, "b", "1", "c", "2")) })
		if got := r.finish(); got != gone {
			t.Fatalf("behind %d steps: %v", steps, got)
		}
		r.is(lone("b", "1"))
	}
	r := start(t, lone("b", "1"), "c")
	r.ends(none, missing)
	r.turn(func(a *arena.Arena) { lay(a, 1, leaf("", 0, "b", "1", "c", "2")) })
	r.stays()
	r.is(lone("b", "1", "c", "2"))
}

// halve makes slot 1, a leaf of b, c and d, two: the key between is c, the right half slot 2, and nobody above knows of it.
func halve(a *arena.Arena) {
	id, _ := a.Alloc()
	a.SetBody(id, leaf("", 0, "c", "2", "d", "3").Body)
	a.Unlock(id, true)
	lay(a, 1, leaf("c", id, "b", "1"))
}

// The leaf was halved by another one between VALID and LOCK: the new descent moves to the right, or finds the key in the left half.
func TestLockFalseHalved(t *testing.T) {
	x := lone("b", "1", "c", "2", "d", "3")
	r := start(t, x, "c")
	r.on(down)
	r.turn(halve)
	r.ends("LOCK "+down+along+take, gone)
	r.is(tree{9, 1, []api.Node{leaf("c", 2, "b", "1"), leaf("", 0, "d", "3")}})
	if r.m.Right() != 1 {
		t.Fatalf("right: %d", r.m.Right())
	}
	r = start(t, x, "b")
	r.on(down)
	r.turn(halve)
	r.ends("LOCK "+down+take, gone)
	r.is(tree{9, 1, []api.Node{leaf("c", 2), leaf("", 0, "c", "2", "d", "3")}})
}

// Step and Answer ahead of the end, several times: Answer turns nothing and tells nothing, even when the leaf is laid.
func TestAnswerAhead(t *testing.T) {
	r := start(t, small(), "d")
	for _, name := range strings.Fields(down + along + "LOCK BODY") {
		r.on(name)
		was := mark(r.a)
		for range 3 {
			if got := answered(r.m); got != missing || mark(r.a) != was {
				t.Fatalf("behind %s: %v", name, got)
			}
		}
	}
	r.ends("FREE*", gone)
	for range 3 {
		if got := answered(r.m); got != gone {
			t.Fatalf("%v", got)
		}
	}
}

// A machine that is through stays so, whatever is turned later.
func TestThrough(t *testing.T) {
	for _, x := range []struct {
		tree tree
		key  string
	}{{lone("b", "1"), "b"}, {lone("b", "1"), "c"}, {lone(), ""}, {tree{9, 1, []api.Node{inner(1, "", 0, nil)}}, "c"}} {
		r := start(t, x.tree, x.key)
		was := r.finish()
		for _, do := range []func(){
			func() { lay(r.a, 1, leaf("", 0, "b", "8", "c", "9")) },
			func() { hold(r.a, 1) },
			func() { other, _ := arena.New(1); *r.a = *other },
		} {
			do()
			r.stays()
			if got := answered(r.m); got != was {
				t.Fatalf("%v; then %v", was, got)
			}
		}
	}
}

// The descent's methods are the machine's: on its way down they tell what a descent to level 0 tells that takes the same steps.
func TestPromoted(t *testing.T) {
	a := tall().lay(t)
	for _, key := range []string{"a", "d", "q", "z"} {
		m, way := del.New(a, []byte(key)), descent.New(a, []byte(key), 0)
		for down := true; down; {
			down = !way.Step()
			m.Step()
			id, word, n := m.At()
			wantId, wantWord, want := way.At()
			if id != wantId || word != wantWord || told(n) != told(want) || m.Again() != way.Again() || m.Right() != way.Right() {
				t.Fatalf("%q: at %d, %d, %s; the descent at %d, %d, %s", key, id, word, told(n), wantId, wantWord, told(want))
			}
		}
	}
	for _, size := range []int{0, 65} {
		m := del.New(a, make([]byte, size))
		for range 3 {
			if id, word, n := m.At(); id != 0 || word != 0 || told(n) != told(api.Node{}) || m.Again() != 0 || m.Right() != 0 {
				t.Fatalf("%d bytes: at %d, %d, %s", size, id, word, told(n))
			}
			m.Step()
		}
	}
}
