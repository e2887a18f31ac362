package get_test

import (
	"bytes"
	"math"
	"strings"
	"testing"

	"coppice/api"
	"coppice/arena"
	"coppice/descent"
	"coppice/get"
)

var nothing = answer{}

// The rows of the chapter's table of examples.
func TestExamples(t *testing.T) {
	a := lone().lay(t)
	start(t, a, "a").ends(5, found("1"))
	start(t, a, "b").ends(5, nothing)
	start(t, a, "").ends(1, failed(api.ErrLong))

	for _, x := range []struct {
		key   string
		steps int
	}{{"a", 5}, {"b", 5}, {"", 1}} {
		m := get.New(a, []byte(x.key))
		for range x.steps - 1 {
			if through, took := m.Step(); through || took {
				t.Fatalf("%q, on its way: %v, %v", x.key, through, took)
			}
		}
		if through, took := m.Step(); !through || !took {
			t.Errorf("%q, its last step: %v, %v", x.key, through, took)
		}
		if through, took := m.Step(); !through || took {
			t.Errorf("%q, one step more: %v, %v", x.key, through, took)
		}
	}
}

// Keys of ordinary trees, there and not: how many steps, the answer.
func TestOrdinary(t *testing.T) {
	for _, x := range []struct {
		key   string
		steps int
		want  answer
	}{
		{"a", 13, nothing}, {"b", 13, found("1")}, {"b\x00", 13, nothing}, {"c\xff", 13, nothing},
		{"d", 17, found("2")}, {"e", 17, found("")}, {"f", 17, nothing},
		{"g", 13, nothing}, {"h", 13, found("4")}, {"l\xff\xff", 13, nothing},
		{"m", 13, found("5")}, {"o", 13, nothing},
		{"p", 17, found("6")}, {"p\x00", 17, nothing}, {"q", 17, found("7")}, {"\xff", 17, nothing},
	} {
		start(t, tall().lay(t), x.key).ends(x.steps, x.want)
	}
	start(t, newArena(t), "k").ends(5, nothing)
}

// Keys that may be, at both ends: of 1 byte, of 64; and of no bytes, of 65 and of more, which may not.
func TestKeyLengths(t *testing.T) {
	most := strings.Repeat("k", 64)
	a := tree{1, []api.Node{leaf("", 0, "\x00", "least", "k", "one", most, "most", "\xff", "last")}}.lay(t)
	start(t, a, "\x00").ends(5, found("least"))
	start(t, a, "k").ends(5, found("one"))
	start(t, a, most[:63]).ends(5, nothing)
	start(t, a, most).ends(5, found("most"))
	start(t, a, "\xff").ends(5, found("last"))
	start(t, a, most[:63]+"l").ends(5, nothing)
	for _, size := range []int{65, 66, 128, 1000, 1 << 20} {
		start(t, a, strings.Repeat("k", size)).ends(1, failed(api.ErrLong))
	}
	start(t, a, "").ends(1, failed(api.ErrLong))
	l := look{t, a, get.New(a, nil)}
	l.ends(1, failed(api.ErrLong))
}

// A key that may not be is refused whatever the tree is, even if the tree has it, or no level, or is held.
func TestWrongKeyFirst(t *testing.T) {
	long := strings.Repeat("k", 65)
	for _, key := range []string{"", long} {
		start(t, tree{1, []api.Node{leaf("", 0, key, "1")}}.lay(t), key).ends(1, failed(api.ErrLong))
		start(t, tree{1, []api.Node{inner(1, "", 0, nil)}}.lay(t), key).ends(1, failed(api.ErrLong))
		a := lone().lay(t)
		hold(t, a, 1)
		start(t, a, key).ends(1, failed(api.ErrLong))
	}
}

// The step that refuses a key reads nothing: there is not even an arena.
func TestWrongKeyReadsNothing(t *testing.T) {
	for _, size := range []int{0, 65} {
		m := get.New(nil, make([]byte, size))
		if got := answered(m); got != nothing {
			t.Errorf("%d bytes, ahead of the step: %v", size, got)
		}
		if through, took := m.Step(); !through || !took || answered(m) != failed(api.ErrLong) {
			t.Errorf("%d bytes: %v, %v, %v", size, through, took, answered(m))
		}
		if through, took := m.Step(); !through || took || answered(m) != failed(api.ErrLong) {
			t.Errorf("%d bytes, one step more: %v, %v, %v", size, through, took, answered(m))
		}
	}
}

// A key that is handed in is not kept: whoever changes it later, at any step, changes no answer. Nor is it written to.
func TestKeyChangedLater(t *testing.T) {
	for steps := range 13 {
		l := look{t, tall().lay(t), nil}
		room := []byte("h and more")
		l.m = get.New(l.a, room[:1])
		l.on(steps)
		if string(room) != "h and more" {
			t.Fatalf("the key and its spare room: %q", room)
		}
		copy(room, "bbbbbbbbbb")
		l.ends(13-steps, found("4"))
		if string(room) != "bbbbbbbbbb" {
			t.Fatalf("the key and its spare room: %q", room)
		}
	}
	wrong := bytes.Repeat([]byte("a"), 65)
	a := lone().lay(t)
	l := look{t, a, get.New(a, wrong)}
	copy(wrong, "c")
	l.ends(1, failed(api.ErrLong))
}

// A value of no bytes is there; so is one of as many as may be.
func TestValues(t *testing.T) {
	most := strings.Repeat("v", 256)
	n := leaf("", 0, "a", "", "b", "1", "c", most)
	n.Values[0] = nil
	for _, values := range [][][]byte{n.Values, {{}, []byte("1"), []byte(most)}} {
		n.Values = values
		a := tree{1, []api.Node{n}}.lay(t)
		start(t, a, "a").ends(5, found(""))
		start(t, a, "b").ends(5, found("1"))
		start(t, a, "c").ends(5, found(most))
		start(t, a, "d").ends(5, nothing)
	}
}

// In a leaf that is not right a key has what stands at its own place, if anything does, as in shape's Map.
func TestLeafNotRight(t *testing.T) {
	fall := tree{1, []api.Node{leaf("", 0, "c", "3", "a", "1", "b", "2")}}.lay(t)
	start(t, fall, "a").ends(5, found("1"))
	start(t, fall, "b").ends(5, found("2"))
	start(t, fall, "c").ends(5, found("3"))
	start(t, fall, "d").ends(5, nothing)

	n := leaf("", 0, "a", "1", "b", "2", "c", "3")
	n.Values = n.Values[:1]
	fewer := tree{1, []api.Node{n}}.lay(t)
	start(t, fewer, "a").ends(5, found("1"))
	start(t, fewer, "b").ends(5, found(""))
	start(t, fewer, "c").ends(5, found(""))

	n.Keys, n.Values = nil, texts("1")
	start(t, tree{1, []api.Node{n}}.lay(t), "a").ends(5, nothing)
	start(t, tree{1, []api.Node{leaf("", 0, "a", "1", "a", "2")}}.lay(t), "a").ends(5, found("1"))
	n = leaf("", 0, "a", "1")
	n.Kids = []int{1, 2}
	start(t, tree{1, []api.Node{n}}.lay(t), "a").ends(5, found("1"))
}

// Keys of inner nodes lead the way, and are nobody's answer.
func TestInnerKeys(t *testing.T) {
	up := inner(1, "", 0, texts("m"), 1, 2)
	up.Values = texts("wrong")
	start(t, small().set(2, leaf("", 0, "z", "3")).set(3, up).lay(t), "m").ends(9, nothing)
	start(t, small().set(3, up).lay(t), "m").ends(9, found("2"))
}

// A word that is odd is read once more, for one step and for several, of an inner node and of a leaf.
func TestOddWord(t *testing.T) {
	for _, waits := range []int{1, 2, 7, 300} {
		for _, changed := range []bool{false, true} {
			// held is behind how many steps the latch is taken, odd behind how many its word is read first.
			for _, x := range []struct{ id, held, odd int }{{3, 0, 1}, {3, 1, 1}, {2, 2, 5}, {2, 5, 5}} {
				l := start(t, small().lay(t), "z")
				l.on(x.held)
				hold(t, l.a, x.id)
				l.on(x.odd - x.held + waits)
				give(t, l.a, x.id, changed)
				l.ends(9-x.odd, found("3"))
				l.counts(0, 0)
			}
		}
	}
}

// What is laid while it waits is what it answers.
func TestLaidWhileItWaits(t *testing.T) {
	for _, x := range []struct {
		laid api.Node
		want answer
	}{
		{leaf("", 0, "a", "9"), found("9")},
		{leaf("", 0, "c", "3"), nothing},
		{leaf("", 0, "a", ""), found("")},
	} {
		l := start(t, lone().lay(t), "a")
		hold(t, l.a, 1)
		l.on(3)
		l.a.SetBody(1, x.laid.Body)
		l.on(2)
		give(t, l.a, 1, true)
		l.ends(4, x.want)
	}
}

// A latch that is held over other nodes than the one that is read is not waited for.
func TestOddWordElsewhere(t *testing.T) {
	l := start(t, small().lay(t), "z")
	hold(t, l.a, 1)
	l.on(5)
	hold(t, l.a, 3)
	l.ends(4, found("3"))
}

// A word that is turned between the two readings of it: the machine begins anew, and answers what stands there then.
func TestTurnedBetween(t *testing.T) {
	for steps := range 9 {
		l := start(t, small().lay(t), "z")
		l.on(steps)
		put(t, l.a, 2, leaf("", 0, "m", "2", "z", "9"), true)
		if steps <= 5 {
			l.ends(9-steps, found("9"))
			l.counts(0, 0)
			continue
		}
		l.on(9 - steps)
		l.counts(1, 0)
		l.ends(9, found("9"))
	}
	for steps := 2; steps <= 4; steps++ {
		l := start(t, small().lay(t), "z")
		l.on(steps)
		put(t, l.a, 3, read(l.a, 3), true)
		l.on(5 - steps)
		l.counts(1, 0)
		put(t, l.a, 2, leaf("", 0, "m", "2"), true)
		l.ends(9, nothing)
	}
}

// It begins anew as often as it must.
func TestAgainAndAgain(t *testing.T) {
	l := start(t, lone().lay(t), "c")
	for again := range 50 {
		l.on(2 + again%3)
		put(t, l.a, 1, read(l.a, 1), true)
		l.on(3 - again%3)
		l.counts(again+1, 0)
	}
	l.ends(5, found("3"))
}

// A latch that is still held at the second reading: it begins anew, and waits then.
func TestHeldAtTheSecondReading(t *testing.T) {
	for steps := 2; steps <= 4; steps++ {
		for _, changed := range []bool{false, true} {
			l := start(t, lone().lay(t), "c")
			l.on(steps)
			hold(t, l.a, 1)
			l.on(5 - steps)
			l.counts(1, 0)
			l.on(1 + 4)
			give(t, l.a, 1, changed)
			l.ends(4, found("3"))
			l.counts(1, 0)
		}
	}
}

// The node's body is what is read at its own step: what is laid ahead of that is answered, what is laid behind it is not. (The latch is given back as unchanged, so that nothing else tells.)
func TestOneThingAStep(t *testing.T) {
	for steps := range 5 {
		l := start(t, lone().lay(t), "a")
		l.on(steps)
		put(t, l.a, 1, leaf("", 0, "a", "9"), false)
		want := found("9")
		if steps == 4 {
			want = found("1")
		}
		l.ends(5-steps, want)
	}
}

// A root that is turned meanwhile: by the one that was, the machine moves to the right; by the new one, if it begins anew.
func TestRootTurned(t *testing.T) {
	two := small()
	two.root = 1
	l := start(t, two.lay(t), "z")
	grow(t, l.a, 3)
	l.ends(9, found("3"))
	l.counts(0, 0)
	for steps := 1; steps < 5; steps++ {
		l := start(t, two.lay(t), "z")
		l.on(steps)
		grow(t, l.a, 3)
		l.ends(9-steps, found("3"))
		l.counts(0, 1)
	}
	l = start(t, two.lay(t), "z")
	l.on(4)
	grow(t, l.a, 3)
	put(t, l.a, 1, read(l.a, 1), true)
	l.on(1)
	l.ends(9, found("3"))
	l.counts(1, 0)
	for steps := 1; steps < 5; steps++ {
		l := start(t, lone().lay(t), "a")
		l.on(steps)
		id, _ := l.a.Alloc()
		l.a.SetBody(id, leaf("", 0, "a", "9").Body)
		give(t, l.a, id, true)
		grow(t, l.a, id)
		l.ends(5-steps, found("1"))
	}
}

// split makes a leaf two: keys from the one between on lie in a new node then, to which its Right leads; nobody above knows of it.
func split(t *testing.T, a *arena.Arena, id int, left api.Node, right api.Node) {
	t.Helper()
	half, err := a.Alloc()
	if err != api.OK || half != left.Right {
		t.Fatalf("Alloc: %d, %d; the right half is to be %d", half, err, left.Right)
	}
	a.SetHead(half, right.Head)
	a.SetBody(half, right.Body)
	give(t, a, half, true)
	put(t, a, id, left, true)
}

// A leaf that is split meanwhile, behind each step: the machine moves to the right for a key of the right half.
func TestLeafSplit(t *testing.T) {
	left, right := leaf("q", 4, "m", "2"), leaf("", 0, "q", "8", "z", "3")
	for _, x := range []struct {
		key   string
		moves int
		was   answer
		want  answer
	}{
		{"z", 1, found("3"), found("3")},
		{"q", 1, nothing, found("8")},
		{"r", 1, nothing, nothing},
		{"m", 0, found("2"), found("2")},
		{"p", 0, nothing, nothing},
	} {
		for steps := range 9 {
			l := start(t, small().lay(t), x.key)
			l.on(steps)
			split(t, l.a, 2, left, right)
			if steps <= 5 {
				l.ends(9+4*x.moves-steps, x.want)
				l.counts(0, x.moves)
				continue
			}
			l.on(9 - steps)
			l.ends(9+4*x.moves, x.want)
			l.counts(1, x.moves)
		}
		l := start(t, small().lay(t), x.key)
		l.ends(9, x.was)
		split(t, l.a, 2, left, right)
		l.stays()
	}
}

// A leaf that is split while the machine stands ahead of its right half already, and the half once more: it moves on.
func TestSplitOnceMore(t *testing.T) {
	l := start(t, small().lay(t), "z")
	l.on(5)
	split(t, l.a, 2, leaf("q", 4, "m", "2"), leaf("", 0, "q", "8", "z", "3"))
	l.on(4)
	split(t, l.a, 4, leaf("z", 5, "q", "8"), leaf("", 0, "z", "3"))
	l.ends(8, found("3"))
	l.counts(0, 2)
}

// A tree in which there is no such level: leaves below level 0, inner nodes that lead nowhere. The machine has no effect.
func TestNoSuchLevel(t *testing.T) {
	none := failed(api.ErrArenaNode)
	for _, level := range []int{-1, -33, math.MinInt} {
		low := leaf("", 0, "a", "1")
		low.Level = level
		start(t, tree{1, []api.Node{low}}.lay(t), "a").ends(5, none)
		start(t, small().set(1, low).lay(t), "a").ends(9, none)
		start(t, small().set(1, low).lay(t), "z").ends(9, found("3"))
	}
	start(t, small().set(3, inner(1, "", 0, nil)).lay(t), "a").ends(6, none)
	start(t, small().set(3, inner(1, "", 0, texts("m"))).lay(t), "z").ends(6, none)
	start(t, small().set(3, inner(5, "", 0, texts("m"), 1, 2)).lay(t), "z").ends(9, found("3"))
}

// A child or a right neighbour that is not there: the step that reads its word is the last one, and has no effect.
func TestNumbersNotTaken(t *testing.T) {
	none := failed(api.ErrArenaNode)
	for _, id := range []int{0, 4, 40, 41, -1, math.MinInt, math.MaxInt} {
		start(t, small().set(3, inner(1, "", 0, texts("m"), 1, id)).lay(t), "z").ends(6, none)
		start(t, small().set(3, inner(1, "", 0, texts("m"), 1, id)).lay(t), "a").ends(9, found("1"))
		start(t, small().set(2, leaf("q", id, "m", "2", "z", "3")).lay(t), "z").ends(10, none)
		start(t, small().set(2, leaf("q", id, "m", "2", "z", "3")).lay(t), "m").ends(9, found("2"))
		start(t, small().set(3, inner(1, "q", id, texts("m"), 1, 2)).lay(t), "q").ends(6, none)
	}
	l := start(t, small().set(3, inner(1, "", 0, nil, 4)).lay(t), "z")
	l.on(5)
	l.a.Alloc()
	l.a.SetBody(4, leaf("", 0, "z", "9").Body)
	give(t, l.a, 4, true)
	l.ends(4, found("9"))
}

// A call of the arena that answers an error, at each of the steps: of the root, and of a leaf. The arena has fewer slots from then on.
func TestErrorAtEachStep(t *testing.T) {
	for steps := 1; steps <= 8; steps++ {
		l := start(t, small().lay(t), "z")
		l.on(steps)
		*l.a = *newArena(t)
		l.ends(1, failed(api.ErrArenaNode))
	}
	l := start(t, small().lay(t), "z")
	*l.a = *newArena(t)
	l.ends(5, nothing)
}

// A way that leads round goes on as long as it is asked, step by step.
func TestRound(t *testing.T) {
	l := start(t, tree{1, []api.Node{leaf("m", 1)}}.lay(t), "z")
	l.on(401)
	l.counts(0, 100)
	put(t, l.a, 1, leaf("", 0, "z", "1"), true)
	l.ends(4, found("1"))
	start(t, tree{1, []api.Node{inner(1, "", 0, nil, 1)}}.lay(t), "z").on(401)
}

// A machine that is through stays so, and answers what it answered, whatever is turned later.
func TestThrough(t *testing.T) {
	for _, key := range []string{"a", "b", ""} {
		l := start(t, lone().lay(t), key)
		for through := false; !through; through, _ = l.step() {
		}
		was := answered(l.m)
		put(t, l.a, 1, leaf("", 0, "a", "8", "b", "9"), true)
		l.stays()
		hold(t, l.a, 1)
		l.stays()
		*l.a = *newArena(t)
		l.stays()
		if got := answered(l.m); got != was {
			t.Errorf("%q: %v; then %v", key, was, got)
		}
	}
	l := start(t, tree{1, []api.Node{inner(1, "", 0, nil)}}.lay(t), "a")
	l.ends(6, failed(api.ErrArenaNode))
	put(t, l.a, 1, leaf("", 0, "a", "1"), true)
	l.stays()
	start(t, l.a, "a").ends(5, found("1"))
}

// The descent's methods are the machine's: they tell what a descent to level 0 tells that takes the same steps.
func TestPromoted(t *testing.T) {
	a := tall().lay(t)
	for _, key := range []string{"a", "d", "q", "z"} {
		m, way := get.New(a, []byte(key)), descent.New(a, []byte(key), 0)
		for through := false; !through; {
			through = way.Step()
			if got, _ := m.Step(); got != through {
				t.Fatalf("%q: %v; the descent: %v", key, got, through)
			}
			id, word, n := m.At()
			wantId, wantWord, want := way.At()
			if id != wantId || word != wantWord || told(n) != told(want) || m.Again() != way.Again() || m.Right() != way.Right() {
				t.Fatalf("%q: at %d, %d, %s; the descent at %d, %d, %s", key, id, word, told(n), wantId, wantWord, told(want))
			}
		}
	}
	for _, size := range []int{0, 65} {
		m := get.New(a, make([]byte, size))
		for range 3 {
			if id, word, n := m.At(); id != 0 || word != 0 || told(n) != told(api.Node{}) || m.Again() != 0 || m.Right() != 0 {
				t.Fatalf("%d bytes: at %d, %d, %s", size, id, word, told(n))
			}
			m.Step()
		}
	}
}

// P3: what Answer tells is new memory, call by call: whoever writes over it, and over its spare room, changes no later answer and no arena.
func TestMemory(t *testing.T) {
	for _, value := range []string{"", "1", "a value", strings.Repeat("v", 256)} {
		a := tree{1, []api.Node{leaf("", 0, "a", value, "c", "3")}}.lay(t)
		l := start(t, a, "a")
		l.ends(5, found(value))
		was := state(a)
		_, _, n := l.m.At()
		leafToo := told(n)
		one, _, _ := l.m.Answer()
		two, _, _ := l.m.Answer()
		room := two[:cap(two)]
		before := string(room)
		for i := range one[:cap(one)] {
			one[:cap(one)][i] ^= 0x5a
		}
		if string(room) != before {
			t.Fatalf("two answers share memory: %q; not %q", room, before)
		}
		for i := range room {
			room[i] ^= 0x5a
		}
		if got := answered(l.m); got != found(value) || state(a) != was {
			t.Fatalf("%v; not %q", got, value)
		}
		if _, _, n := l.m.At(); told(n) != leafToo {
			t.Fatalf("%s; not %s", told(n), leafToo)
		}
		l.stays()
	}
}
