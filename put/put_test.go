package put_test

import (
	"bytes"
	"fmt"
	"slices"
	"strings"
	"testing"

	"coppice/api"
	"coppice/arena"
	"coppice/get"
	"coppice/put"
	"coppice/shape"
)

// count is how many steps some names are.
func count(names string) int { return len(strings.Fields(names)) }

// The rows of the chapter's table of examples.
func TestExamples(t *testing.T) {
	c := api.Config{Nodes: 9, Leaf: 2, Inner: 3, Fill: 2, Block: 4}
	r := start(t, tree{9, 1, nil}, c, "b", "1")
	r.ends("ROOT WORD HEAD BODY VALID LOCK BODY FREE*", fresh)
	r.is(lone("b", "1"))
	r.next(c, "b", "2").ends(down+plain, had)
	r.is(lone("b", "2"))
	r.next(c, "d", "4").ends(down+plain, fresh)
	r.is(lone("b", "2", "d", "4"))
	all := down + "LOCK ALLOC QHEAD QBODY QFREE PHEAD PBODY PFREE* " + down + "TOP TALLOC THEAD TBODY TFREE GROW"
	if count(down+plain) != 8 || count(all) != 24 {
		t.Fatalf("%d steps, %d steps", count(down+plain), count(all))
	}
	r.next(c, "c", "3").ends(all, fresh)
	r.is(tree{9, 3, []api.Node{leaf("d", 2, "b", "2", "c", "3"), leaf("", 0, "d", "4"), inner(1, "", 0, texts("d"), 1, 2)}})
	r.next(c, "", "").ends("ARGS*", failed(api.ErrLong))

	start(t, lone("b", "", "d", "").of(1), c, "c", "3").ends(down+"LOCK ALLOC GIVE*", failed(api.ErrFull))
}

// The document's examples of the whole that are of puts alone: 1, 6, 7 and 8.
func TestExamplesOfTheWhole(t *testing.T) {
	c := two()
	r := start(t, tree{20, 1, nil}, c, "a", "1")
	for _, x := range []run{r, r.next(c, "b", "2"), r.next(c, "c", "3")} {
		if got := x.finish(); got != fresh {
			t.Fatalf("%v", got)
		}
	}
	want := api.Report{Sound: true, Levels: 2, Nodes: 3, Entries: 3}
	if got := shape.Check(r.a, c); got != want {
		t.Fatalf("%+v: %s", got, state(r.a))
	}

	one := start(t, tree{20, 1, nil}, c, "k", "1")
	other := one.next(c, "k", "2")
	one.on(down + "LOCK BODY")
	other.on("ROOT" + strings.Repeat(" WORD", 7))
	one.ends("FREE*", fresh)
	other.on("WORD HEAD BODY VALID LOCK BODY")
	if held := other.a.Held(); !slices.Equal(held, []int{1}) {
		t.Fatalf("held: %d", held)
	}
	other.ends("FREE*", had)
	other.is(lone("k", "2"))

	r = start(t, tree{20, 1, nil}, c, "k", "1")
	look := get.New(r.a, []byte("k"))
	for range 3 {
		look.Step()
	}
	r.ends(down+plain, fresh)
	for range 2 {
		look.Step()
	}
	if look.Again() != 1 {
		t.Fatalf("again: %d", look.Again())
	}
	for range 5 {
		look.Step()
	}
	if value, there, err := look.Answer(); string(value) != "1" || !there || err != api.OK {
		t.Fatalf("%q, %v, %d", value, there, err)
	}
}

// Each row of the chapter's table of steps, by what stands in the arena behind it: a put that is laid at once.
func TestEachStepPlain(t *testing.T) {
	r := start(t, small(), two(), "o", "9")
	check := func(names string, words ...uint64) {
		t.Helper()
		r.on(names)
		if got := wordsOf(r.a); !slices.Equal(got, words) {
			t.Fatalf("%s: %d", names, got)
		}
	}
	check("ROOT", 2, 2, 2)
	check(along+along, 2, 2, 2)
	check("LOCK", 2, 3, 2)
	was := nodes(r.a)
	check("BODY", 2, 3, 2)
	if nodes(r.a) == was || told(read(r.a, 2)) != told(leaf("", 0, "m", "3", "o", "9")) {
		t.Fatalf("BODY: %s", state(r.a))
	}
	r.ends("FREE*", fresh)
	if got := wordsOf(r.a); !slices.Equal(got, []uint64{2, 4, 2}) {
		t.Fatalf("FREE: %d", got)
	}
	r.is(small().set(2, leaf("", 0, "m", "3", "o", "9")))
}

// Each row of the table: a put that halves a leaf and the root above it.
func TestEachStepHalves(t *testing.T) {
	r := start(t, wide(), two(), "c", "9")
	words := []uint64{2, 2, 2, 2}
	want := slices.Clone(wide().nodes)
	behind := func(names string, root int) {
		t.Helper()
		for _, name := range strings.Fields(names) {
			r.named(name)
			for i, n := range want {
				if got := told(read(r.a, i+1)); got != told(n) {
					t.Fatalf("%s: %d: %s; not %s", name, i+1, got, told(n))
				}
			}
			if got := wordsOf(r.a); !slices.Equal(got, words) || r.a.Root() != root {
				t.Fatalf("%s: words %d, root %d; not %d, %d", name, got, r.a.Root(), words, root)
			}
		}
	}
	behind(down+along, 4)
	words[0] = 3
	behind("LOCK", 4)
	words, want = append(words, 1), append(want, api.Node{})
	behind("ALLOC", 4)
	want[4].Head = api.Head{High: []byte("m"), Right: 2}
	behind("QHEAD", 4)
	want[4].Body = leaf("", 0, "d", "2").Body
	behind("QBODY", 4)
	words[4] = 2
	behind("QFREE", 4)
	want[0].Head = api.Head{High: []byte("d"), Right: 5}
	behind("PHEAD", 4)
	want[0].Body = leaf("", 0, "b", "1", "c", "9").Body
	behind("PBODY", 4)
	words[0] = 4
	behind("PFREE*", 4)

	behind(down, 4)
	words[3] = 3
	behind("LOCK", 4)
	words, want = append(words, 1), append(want, api.Node{})
	behind("ALLOC", 4)
	want[5].Head = api.Head{Level: 1}
	behind("QHEAD", 4)
	want[5].Body = api.Body{Keys: texts("t"), Kids: []int{2, 3}}
	behind("QBODY", 4)
	words[5] = 2
	behind("QFREE", 4)
	want[3].Head = api.Head{Level: 1, High: []byte("m"), Right: 6}
	behind("PHEAD", 4)
	want[3].Body = api.Body{Keys: texts("d"), Kids: []int{1, 5}}
	behind("PBODY", 4)
	words[3] = 4
	behind("PFREE", 4)

	behind(down+"TOP", 4)
	words, want = append(words, 1), append(want, api.Node{})
	behind("TALLOC", 4)
	want[6].Head = api.Head{Level: 2}
	behind("THEAD", 4)
	want[6].Body = api.Body{Keys: texts("m"), Kids: []int{4, 6}}
	behind("TBODY", 4)
	words[6] = 2
	behind("TFREE", 4)
	behind("GROW", 7)
	if got := answered(r.m); got != fresh {
		t.Fatalf("%v", got)
	}
	r.stays()
	r.is(tree{9, 7, want})
}

// A tree of three levels, all full at the left edge: each level is halved, and a root laid above.
func TestThreeLevels(t *testing.T) {
	r := start(t, tall(), two(), "c", "9")
	r.ends(down+along+along+split+down+along+parted+down+parted+down+crown, fresh)
	r.is(tree{20, 13, []api.Node{
		leaf("d", 10, "b", "1", "c", "9"),
		leaf("g", 3, "e", "3"),
		leaf("m", 4, "g", "4"),
		leaf("p", 5, "m", "5"),
		leaf("", 0, "p", "6"),
		inner(1, "e", 11, texts("d"), 1, 10),
		inner(1, "p", 8, nil, 4),
		inner(1, "", 0, nil, 5),
		inner(2, "m", 12, texts("e"), 6, 11),
		leaf("e", 2, "d", "2"),
		inner(1, "m", 7, texts("g"), 2, 3),
		inner(2, "", 0, texts("p"), 7, 8),
		inner(3, "", 0, texts("m"), 9, 12),
	}})
	if got := shape.Check(r.a, two()); !got.Sound || got.Levels != 4 || got.Entries != 7 {
		t.Fatalf("%+v", got)
	}
}

// Keys at both ends of what may be, and beyond.
func TestKeyLengths(t *testing.T) {
	most := strings.Repeat("k", 64)
	for _, key := range []string{"\x00", "k", "\xff", most, strings.Repeat("\x00", 64), strings.Repeat("\xff", 64)} {
		r := start(t, lone(), two(), key, "1")
		r.ends(down+plain, fresh)
		r.is(lone(key, "1"))
		r.next(two(), key, "2").ends(down+plain, had)
		r.is(lone(key, "2"))
	}
	for _, key := range []string{"", most + "k", strings.Repeat("k", 66), strings.Repeat("k", 256), strings.Repeat("k", 1<<20)} {
		r := start(t, lone("a", "1"), two(), key, "1")
		r.ends("ARGS*", failed(api.ErrLong))
		r.is(lone("a", "1"))
	}
	a := lone().lay(t)
	m := put.New(a, two(), nil, nil)
	if through, took := m.Step(); !through || !took || answered(m) != failed(api.ErrLong) {
		t.Fatalf("%v, %v, %v", through, took, answered(m))
	}
}

// Values at both ends of what may be, and beyond.
func TestValueLengths(t *testing.T) {
	most := strings.Repeat("v", 256)
	for _, value := range []string{"", "1", most} {
		r := start(t, lone(), two(), "k", value)
		r.ends(down+plain, fresh)
		r.is(lone("k", value))
		r.next(two(), "k", "2").ends(down+plain, had)
		r.next(two(), "k", value).ends(down+plain, had)
		r.is(lone("k", value))
	}
	for _, size := range []int{257, 258, 1 << 20} {
		r := start(t, lone("k", "1"), two(), "k", strings.Repeat("v", size))
		r.ends("ARGS*", failed(api.ErrLong))
		r.is(lone("k", "1"))
	}
	a := lone().lay(t)
	m := put.New(a, two(), []byte("k"), nil)
	for range count(down + plain) {
		m.Step()
	}
	if got := shape.Map(a); len(got) != 1 || len(got[0].Value) != 0 || answered(m) != fresh {
		t.Fatalf("%v, %v", got, answered(m))
	}
}

// A key or a value that may not be is refused whatever the tree is, and nothing is read: there need not even be an arena.
func TestWrongFirst(t *testing.T) {
	long := strings.Repeat("k", 65)
	for _, x := range [][]string{{"", ""}, {long, ""}, {"", strings.Repeat("v", 257)}, {"k", strings.Repeat("v", 257)}, {long, strings.Repeat("v", 257)}} {
		key, value := x[0], x[1]
		start(t, lone(key, "1").of(1), two(), key, value).ends("ARGS*", failed(api.ErrLong))
		start(t, tree{9, 1, []api.Node{inner(1, "", 0, nil)}}, two(), key, value).ends("ARGS*", failed(api.ErrLong))
		r := start(t, lone("a", "1", "b", "2"), two(), key, value)
		r.turn(func(a *arena.Arena) { hold(a, 1) })
		r.ends("ARGS*", failed(api.ErrLong))

		m := put.New(nil, two(), []byte(key), []byte(value))
		if got := answered(m); got != fresh {
			t.Fatalf("ahead of the step: %v", got)
		}
		if through, took := m.Step(); !through || !took || answered(m) != failed(api.ErrLong) {
			t.Fatalf("%v, %v, %v", through, took, answered(m))
		}
		if through, took := m.Step(); !through || took || answered(m) != failed(api.ErrLong) {
			t.Fatalf("one step more: %v, %v, %v", through, took, answered(m))
		}
	}
}

// P3: a key and a value that are handed in are not kept: whoever changes them later, at any step or behind the end, changes nothing. Nor are they, or their spare room, written to.
func TestHandedIn(t *testing.T) {
	names := down + split + down + crown
	like := start(t, lone("b", "1", "d", "2"), two(), "c", "val")
	like.ends(names, fresh)
	want := state(like.a)
	for steps := range count(names) + 1 {
		a := lone("b", "1", "d", "2").lay(t)
		key, value := []byte("c and more"), []byte("value and more")
		m := put.New(a, two(), key[:1], value[:3])
		for i := range count(names) {
			if i == steps {
				copy(key, bytes.Repeat([]byte("z"), 10))
				copy(value, bytes.Repeat([]byte("z"), 14))
			}
			m.Step()
		}
		if steps == count(names) {
			if string(key) != "c and more" || string(value) != "value and more" {
				t.Fatalf("%q, %q", key, value)
			}
			copy(key, bytes.Repeat([]byte("z"), 10))
			copy(value, bytes.Repeat([]byte("z"), 14))
		}
		if state(a) != want || answered(m) != fresh {
			t.Fatalf("changed behind %d steps: %s\nnot %s", steps, state(a), want)
		}
	}
	wrong := bytes.Repeat([]byte("a"), 65)
	m := put.New(lone().lay(t), two(), wrong, nil)
	copy(wrong, "c")
	if _, took := m.Step(); !took || answered(m) != failed(api.ErrLong) {
		t.Fatalf("%v", answered(m))
	}
}

// Keys that are there, and that are not, at all places of ordinary trees.
func TestThereOrNot(t *testing.T) {
	wider := api.Config{Leaf: 4, Inner: 4}
	for _, x := range []struct {
		key   string
		names string
		want  answer
		id    int
		leaf  api.Node
	}{
		{"a", along, fresh, 1, leaf("m", 2, "a", "9", "b", "1", "d", "2")},
		{"b", along, had, 1, leaf("m", 2, "b", "9", "d", "2")},
		{"b\x00", along, fresh, 1, leaf("m", 2, "b", "1", "b\x00", "9", "d", "2")},
		{"d", along, had, 1, leaf("m", 2, "b", "1", "d", "9")},
		{"l\xff", along, fresh, 1, leaf("m", 2, "b", "1", "d", "2", "l\xff", "9")},
		{"m", along, had, 2, leaf("t", 3, "m", "9")},
		{"m\x00", along, fresh, 2, leaf("t", 3, "m", "3", "m\x00", "9")},
		{"s", along, fresh, 2, leaf("t", 3, "m", "3", "s", "9")},
		{"t", along, had, 3, leaf("", 0, "t", "9")},
		{"\xff", along, fresh, 3, leaf("", 0, "t", "4", "\xff", "9")},
	} {
		r := start(t, wide(), wider, x.key, "9")
		r.ends(down+x.names+plain, x.want)
		r.is(wide().set(x.id, x.leaf))
		// A leaf of which nobody above knows is come to by its left brother.
		alone := wide().set(4, inner(1, "", 0, nil, 1))
		r = start(t, alone, wider, x.key, "9")
		r.ends(down+strings.Repeat(along, x.id)+plain, x.want)
		r.is(alone.set(x.id, x.leaf))
	}
}

// A key that is there in a leaf that is full: nothing is halved.
func TestThereInFull(t *testing.T) {
	r := start(t, small(), two(), "d", "9")
	r.ends(down+along+plain, had)
	r.is(small().set(1, leaf("m", 2, "b", "1", "d", "9")))
	r.next(two(), "b", "").ends(down+along+plain, had)
	r.is(small().set(1, leaf("m", 2, "b", "", "d", "9")))
}

// LOCK that is false at Level 0: the leaf was turned, or is held; DOWN begins anew, with the root.
func TestLockFalse(t *testing.T) {
	r := start(t, lone("b", "1"), two(), "c", "9")
	for i := range 20 {
		r.on(down)
		r.turn(func(a *arena.Arena) { lay(a, 1, leaf("", 0, "b", fmt.Sprint(i))) })
		r.on("LOCK")
		if held := r.a.Held(); len(held) > 0 {
			t.Fatalf("held: %d", held)
		}
	}
	r.ends(down+plain, fresh)
	r.is(lone("b", "19", "c", "9"))

	r = start(t, lone("b", "1"), two(), "c", "9")
	r.on(down)
	r.turn(func(a *arena.Arena) { hold(a, 1) })
	r.on("LOCK ROOT WORD WORD WORD WORD")
	r.turn(func(a *arena.Arena) { a.Unlock(1, true) })
	r.ends(along+plain, fresh)
	r.is(lone("b", "1", "c", "9"))

	// A latch that was held meanwhile, and given back as it was, is taken.
	r = start(t, lone("b", "1"), two(), "c", "9")
	r.on(down)
	r.turn(func(a *arena.Arena) { hold(a, 1); a.Unlock(1, false) })
	r.ends(plain, fresh)
}

// Whether the key had a value is what the leaf said behind the LOCK that was true, not what an earlier descent read.
func TestHadBehindLock(t *testing.T) {
	r := start(t, lone("b", "1"), two(), "c", "9")
	r.on(down)
	r.turn(func(a *arena.Arena) { lay(a, 1, leaf("", 0, "b", "1", "c", "2")) })
	r.ends("LOCK "+down+plain, had)
	r = start(t, lone("b", "1", "c", "2"), two(), "c", "9")
	r.on(down)
	r.turn(func(a *arena.Arena) { lay(a, 1, leaf("", 0, "b", "1")) })
	r.ends("LOCK "+down+plain, fresh)
	r.is(lone("b", "1", "c", "9"))

	// And what it said stays, whatever becomes of the key later.
	r = start(t, lone("a", "1", "b", "1", "c", "2"), two(), "c", "9")
	r.on(down + split)
	r.turn(func(a *arena.Arena) { lay(a, 2, leaf("", 0)) })
	r.ends(down+crown, had)
}

// The leaf was halved by another one between VALID and LOCK: the new descent moves to the right.
func TestLockFalseHalved(t *testing.T) {
	one := start(t, lone("b", "1", "d", "2"), two(), "e", "9")
	other := one.next(two(), "c", "3")
	one.on(down)
	other.on(down + split)
	one.ends("LOCK "+down+along+plain, fresh)
	other.ends(down+crown, fresh)
	other.is(tree{9, 3, []api.Node{leaf("d", 2, "b", "1", "c", "3"), leaf("", 0, "d", "2", "e", "9"), inner(1, "", 0, texts("d"), 1, 2)}})
}

// LOCK that is false above Level 0: the node there was turned, held, or halved, or is no root any more.
func TestLockFalseAbove(t *testing.T) {
	want := small().set(1, leaf("d", 4, "b", "1", "c", "9"))
	want.nodes = append(want.nodes, leaf("m", 2, "d", "2"))
	want = want.set(3, inner(1, "", 0, texts("d", "m"), 1, 4, 2))
	r := start(t, small(), two(), "c", "9")
	r.on(down + along + split)
	for range 9 {
		r.on(down)
		r.turn(func(a *arena.Arena) { lay(a, 3, read(a, 3)) })
		r.on("LOCK")
	}
	r.ends(down+joined, fresh)
	r.is(want)

	r = start(t, small(), two(), "c", "9")
	r.on(down + along + split + down)
	r.turn(func(a *arena.Arena) { hold(a, 3) })
	r.on("LOCK ROOT WORD WORD WORD")
	r.turn(func(a *arena.Arena) { a.Unlock(3, false) })
	r.ends(along+joined, fresh)
	r.is(want)

	// Another one halved the node, which was the root, and laid a root above: the way leads to the right half.
	x := wide().set(2, leaf("t", 3, "m", "3", "q", "4")).of(20)
	one := start(t, x, two(), "c", "9")
	other := one.next(two(), "o", "8")
	other.on(down + along + split + down)
	one.ends(down+along+split+down+parted+down+crown, fresh)
	other.ends("LOCK "+down+along+joined, fresh)
	if got := shape.Check(one.a, two()); !got.Sound || got.Entries != 7 {
		t.Fatalf("%+v: %s", got, state(one.a))
	}
}

// Sep that is one of the node's keys already, above Level 0: the node is kept, and its word is as it was.
func TestKeep(t *testing.T) {
	x := tree{9, 2, []api.Node{leaf("", 0, "b", "1", "d", "2"), inner(1, "", 0, texts("d"), 1, 3), leaf("", 0, "d", "3")}}
	r := start(t, x, two(), "c", "9")
	r.on(down + along + split + down)
	was := state(r.a)
	r.on("LOCK")
	r.ends("KEEP", fresh)
	if state(r.a) != was {
		t.Fatalf("%s\nnot %s", state(r.a), was)
	}

	// A full node is kept too: nothing is halved for a key that it has.
	full := wide().set(4, inner(1, "", 0, texts("d", "m"), 1, 2, 3))
	r = start(t, full, two(), "c", "9")
	r.ends(down+along+split+down+"LOCK KEEP", fresh)
	if got := read(r.a, 4); told(got) != told(full.nodes[3]) {
		t.Fatalf("%s", told(got))
	}

	// Another one told the node of the half between the descent and LOCK.
	r = start(t, small(), two(), "c", "9")
	r.on(down + along + split + down)
	r.turn(func(a *arena.Arena) { lay(a, 3, inner(1, "", 0, texts("d", "m"), 1, 4, 2)) })
	r.ends("LOCK "+down+"LOCK KEEP", fresh)
	if got := shape.Check(r.a, two()); !got.Sound {
		t.Fatalf("%+v", got)
	}

	// Two levels up, with a value that was there.
	x = tall().set(1, leaf("e", 2, "b", "1", "c", "2", "d", "3")).set(9, inner(2, "", 0, texts("e"), 6, 8))
	start(t, x, two(), "c", "9").ends(down+along+along+split+down+along+parted+down+"LOCK KEEP", had)
}

// many is a text for each number, all of one length.
func many(i int) string { return fmt.Sprintf("k%03d", i) }

// A leaf that is just not Over, and one that is, by several configurations.
func TestLeafOver(t *testing.T) {
	for _, most := range []int{1, 2, 3, 4, 5, 63, 64} {
		c := api.Config{Leaf: most, Inner: 3}
		var entries []string
		for i := range most - 1 {
			entries = append(entries, many(2*i), "v")
		}
		r := start(t, lone(entries...), c, "k999", "w")
		r.ends(down+plain, fresh)
		entries = append(entries, "k999", "w")
		r.is(lone(entries...))
		r.next(c, "k999", "v").ends(down+plain, had)
		r.next(c, "k001", "w").on(down + "LOCK ALLOC")
	}
}

// The halves of a leaf, by several configurations, and at which place the key comes.
func TestLeafHalves(t *testing.T) {
	for _, most := range []int{2, 3, 4, 7, 64} {
		c := api.Config{Leaf: most, Inner: 3}
		var entries []string
		for i := range most {
			entries = append(entries, many(2*i+1), "v")
		}
		for at := range most + 1 {
			r := start(t, lone(entries...), c, many(2*at), "w")
			r.ends(down+split+down+crown, fresh)
			all := slices.Insert(slices.Clone(entries), 2*at, many(2*at), "w")
			h := (most + 2) / 2
			between := all[2*h]
			r.is(tree{9, 3, []api.Node{leaf(between, 2, all[:2*h]...), leaf("", 0, all[2*h:]...), inner(1, "", 0, texts(between), 1, 2)}})
		}
	}
}

// broad has so many leaves, the one of a number being full, and one node above.
func broad(leaves, full int) tree {
	x := tree{slots: leaves + 9, root: leaves + 1}
	var keys [][]byte
	var kids []int
	for i := range leaves {
		n := leaf(many(10*i+10), i+2, many(10*i), "1")
		if i == leaves-1 {
			n = leaf("", 0, many(10*i), "1")
		}
		if i == full {
			n.Keys, n.Values = append(n.Keys, []byte(many(10*i+4))), append(n.Values, []byte("2"))
		}
		if i > 0 {
			keys = append(keys, []byte(many(10*i)))
		}
		x.nodes, kids = append(x.nodes, n), append(kids, i+1)
	}
	x.nodes = append(x.nodes, inner(1, "", 0, keys, kids...))
	return x
}

// An inner node that is just not Over, and one that is.
func TestInnerOver(t *testing.T) {
	for _, most := range []int{3, 4, 5, 64} {
		c := api.Config{Nodes: 90, Leaf: 2, Inner: most, Fill: 2, Block: 4}
		for full := range most {
			if full < most-1 {
				r := start(t, broad(most-1, full), c, many(10*full+2), "9")
				r.ends(down+along+split+down+joined, fresh)
				if n := read(r.a, most); len(n.Kids) != most || n.Kids[full+1] != most+1 || string(n.Keys[full]) != many(10*full+4) {
					t.Fatalf("%s", told(n))
				}
				if got := shape.Check(r.a, c); !got.Sound || got.Nodes != most+1 {
					t.Fatalf("%+v", got)
				}
			}
			r := start(t, broad(most, full), c, many(10*full+2), "9")
			r.ends(down+along+split+down+parted+down+crown, fresh)
			if left := read(r.a, most+1); len(left.Kids) != (most+2)/2 {
				t.Fatalf("%s", told(left))
			}
			if got := shape.Check(r.a, c); !got.Sound || got.Nodes != most+4 || got.Levels != 3 {
				t.Fatalf("%+v", got)
			}
		}
	}
}

// Of the configuration Leaf and Inner count alone.
func TestConfigCounts(t *testing.T) {
	for _, c := range []api.Config{{Leaf: 2, Inner: 3}, {Nodes: -1, Leaf: 2, Inner: 3, Fill: -1, Block: -1}, {Nodes: 1 << 40, Leaf: 2, Inner: 3, Fill: 99, Block: 1 << 40}} {
		r := start(t, wide(), c, "c", "9")
		r.ends(down+along+split+down+parted+down+crown, fresh)
	}
	// Leaf is that of leaves, Inner that of inner nodes.
	start(t, wide(), api.Config{Leaf: 3, Inner: 3}, "c", "9").ends(down+along+plain, fresh)
	start(t, wide(), api.Config{Leaf: 2, Inner: 4}, "c", "9").ends(down+along+split+down+joined, fresh)
	start(t, lone("b", "1", "d", "2"), api.Config{Leaf: 2, Inner: 2}, "c", "9").ends(down+split+down+crown, fresh)
}

// By a configuration that may not be each step is still the table's, and the machine ends.
func TestConfigWrong(t *testing.T) {
	for _, c := range []api.Config{{}, {Leaf: -1, Inner: -1}, {Leaf: 1, Inner: 1}, {Leaf: 0, Inner: 3}, {Leaf: 2, Inner: 0}} {
		for _, x := range []tree{lone(), lone("b", "1", "d", "2"), small(), wide(), tall()} {
			start(t, x, c, "c", "9").finish()
		}
	}
	// No halves of one entry: what Split says of it is laid.
	r := start(t, lone(), api.Config{}, "k", "1")
	r.ends(down+split+down+crown, fresh)
	r.is(tree{9, 3, []api.Node{leaf("", 0, "k", "1"), {}, inner(1, "", 0, texts(""), 1, 2)}})
}

// P14.2: Alloc that is refused at Level 0: nothing is changed, words neither.
func TestFullAtLeaf(t *testing.T) {
	for _, x := range []tree{lone("b", "1", "d", "2").of(1), small().of(3), wide().of(4), tall().of(9)} {
		r := start(t, x, two(), "c", "9")
		was := state(r.a)
		if got := r.finish(); got != failed(api.ErrFull) || state(r.a) != was {
			t.Fatalf("%v: %s\nnot %s", got, state(r.a), was)
		}
		r.next(two(), "b", "9").finish()
		if got := r.next(two(), "zz", "9").finish(); got != fresh && x.slots != 1 {
			t.Fatalf("where there is room: %v", got)
		}
	}
	// A key that had a value: with the error the answer is false.
	start(t, lone("b", "1", "c", "2", "d", "3").of(1), two(), "c", "9").ends(down+"LOCK ALLOC GIVE*", failed(api.ErrFull))
	// The last slot is taken by another one between LOCK and ALLOC.
	r := start(t, lone("b", "1", "d", "2").of(2), two(), "c", "9")
	r.on(down + "LOCK")
	r.turn(func(a *arena.Arena) { a.Alloc() })
	r.ends("ALLOC GIVE*", failed(api.ErrFull))
}

// Alloc that is refused above Level 0, and at TALLOC: the put took effect, and the half is come to by its left brother.
func TestFullAbove(t *testing.T) {
	c := two()
	for _, x := range []struct {
		tree  tree
		names string
	}{
		{wide().of(5), down + along + split + down + "LOCK ALLOC GIVE"},
		{wide().of(6), down + along + split + down + parted + down + "TOP TALLOC"},
		{wide().of(7), down + along + split + down + parted + down + crown},
		{lone("b", "1", "d", "2").of(2), down + split + down + "TOP TALLOC"},
		{tall().of(10), down + along + along + split + down + along + "LOCK ALLOC GIVE"},
		{tall().of(11), down + along + along + split + down + along + parted + down + "LOCK ALLOC GIVE"},
		{tall().of(12), down + along + along + split + down + along + parted + down + parted + down + "TOP TALLOC"},
		{tall().of(13), down + along + along + split + down + along + parted + down + parted + down + crown},
	} {
		r := start(t, x.tree, c, "c", "9")
		r.ends(x.names, fresh)
		if held := r.a.Held(); len(held) > 0 {
			t.Fatalf("held: %d", held)
		}
		if strings.HasSuffix(x.names, "GIVE") {
			// What was refused above changed nothing there.
			id := r.w.id
			if word, _ := r.a.Word(id); word != 2 || told(read(r.a, id)) != told(x.tree.nodes[id-1]) {
				t.Fatalf("%d: word %d, %s", id, word, told(read(r.a, id)))
			}
		}
		c.Nodes = x.tree.slots
		if got := shape.Check(r.a, c); !got.Sound {
			t.Fatalf("%+v: %s", got, state(r.a))
		}
		for _, key := range []string{"b", "c", "d"} {
			m := get.New(r.a, []byte(key))
			for through := false; !through; through, _ = m.Step() {
			}
			if _, there, err := m.Answer(); !there || err != api.OK {
				t.Fatalf("%q: %v, %d: %s", key, there, err, state(r.a))
			}
		}
	}
	// A key that had a value: no slot above is no error.
	x := lone("b", "1", "c", "2", "d", "3").of(2)
	start(t, x, c, "c", "9").ends(down+split+down+"TOP TALLOC", had)
}

// A root that is another one at TOP: the machine's halves are not the first of their level.
func TestAnotherRootAtTop(t *testing.T) {
	c := two()
	one := start(t, lone("b", "1", "d", "2"), c, "c", "3")
	one.on(down + split)
	other := one.next(c, "e", "4")
	other.ends(down+along+plain, fresh)
	third := one.next(c, "f", "5")
	third.ends(down+along+split+down+"TOP", fresh)
	one.ends(down+crown, fresh)
	one.is(tree{9, 4, []api.Node{
		leaf("d", 2, "b", "1", "c", "3"),
		leaf("f", 3, "d", "2", "e", "4"),
		leaf("", 0, "f", "5"),
		inner(1, "", 0, texts("d"), 1, 2),
	}})

	// Another machine made a root just between the descent and TOP.
	one = start(t, lone("b", "1", "d", "2"), c, "c", "3")
	one.on(down + split + down)
	other = one.next(c, "a", "4")
	other.ends(down+split+down+crown, fresh)
	one.ends("TOP", fresh)
	one.is(tree{9, 4, []api.Node{
		leaf("c", 3, "a", "4", "b", "1"),
		leaf("", 0, "d", "2"),
		leaf("d", 2, "c", "3"),
		inner(1, "", 0, texts("c"), 1, 3),
	}})
	if got := shape.Check(one.a, c); !got.Sound {
		t.Fatalf("%+v", got)
	}
}

// A root that is another one at GROW: there is a level above by now, to which the machine goes down anew.
func TestAnotherRootAtGrow(t *testing.T) {
	c := two()
	one := start(t, lone("b", "1", "d", "2"), c, "c", "3")
	one.on(down + split + down + "TOP TALLOC THEAD TBODY TFREE")
	other := one.next(c, "a", "4")
	other.ends(down+split+down+crown, fresh)
	one.ends("GROW "+down+joined, fresh)
	one.is(tree{9, 5, []api.Node{
		leaf("c", 4, "a", "4", "b", "1"),
		leaf("", 0, "d", "2"),
		inner(1, "", 0, texts("d"), 1, 2),
		leaf("d", 2, "c", "3"),
		inner(1, "", 0, texts("c", "d"), 1, 4, 2),
	}})
	if got := shape.Check(one.a, c); !got.Sound || got.Nodes != 4 {
		t.Fatalf("%+v", got)
	}

	// The root is another one, and still there is no such level.
	r := start(t, lone("b", "1", "d", "2"), c, "c", "3")
	r.on(down + split + down + "TOP TALLOC THEAD TBODY TFREE")
	r.turn(func(a *arena.Arena) { a.Grow(1, 2) })
	r.ends("GROW "+down+"TOP", fresh)

	// The root is the old one again by then: a second one is laid above.
	r = start(t, lone("b", "1", "d", "2"), c, "c", "3")
	r.on(down + split + down + "TOP TALLOC THEAD TBODY TFREE")
	r.turn(func(a *arena.Arena) { a.Grow(1, 2) })
	r.on("GROW")
	r.turn(func(a *arena.Arena) { a.Grow(2, 1) })
	r.ends(down+crown, fresh)
	if r.a.Root() != 4 || told(read(r.a, 4)) != told(read(r.a, 3)) {
		t.Fatalf("%s", state(r.a))
	}
}

// Step and Answer ahead of the end, several times: Answer turns nothing and tells nothing, even when the leaf has said what it had.
func TestAnswerAhead(t *testing.T) {
	x := lone("b", "1", "c", "2", "d", "3")
	r := start(t, x, two(), "c", "9")
	for _, name := range strings.Fields(down + split + down + "TOP TALLOC THEAD TBODY TFREE") {
		for range 3 {
			if got := answered(r.m); got != fresh {
				t.Fatalf("ahead of %s: %v", name, got)
			}
		}
		r.on(name)
	}
	r.ends("GROW", had)
	for range 3 {
		if got := answered(r.m); got != had {
			t.Fatalf("%v", got)
		}
	}
}

// A machine that is through stays so, whatever is turned later.
func TestThrough(t *testing.T) {
	for _, x := range []struct {
		tree tree
		key  string
	}{{lone("b", "1"), "c"}, {lone("b", "1"), "b"}, {lone("b", "1", "d", "2"), "c"}, {lone("b", "1", "d", "2").of(1), "c"}, {lone(), ""}, {tree{9, 1, []api.Node{inner(1, "", 0, nil)}}, "c"}} {
		r := start(t, x.tree, two(), x.key, "9")
		was := r.finish()
		for _, do := range []func(){
			func() { lay(r.a, 1, leaf("", 0, "a", "8", "b", "9")) },
			func() { hold(r.a, 1) },
			func() { other, _ := arena.New(1); *r.a = *other },
		} {
			do()
			r.stays()
			if got := answered(r.m); got != was {
				t.Fatalf("%v; then %v", was, got)
			}
		}
	}
}
