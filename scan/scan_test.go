package scan_test

import (
	"fmt"
	"math"
	"slices"
	"strings"
	"testing"

	"coppice/api"
	"coppice/arena"
	"coppice/scan"
)

// pairs is the tree of the chapter's examples.
func pairs() tree {
	return tree{9, 3, []api.Node{
		leaf("d", 2, "a", "1", "c", "3"),
		leaf("", 0, "d", "4", "f", "6"),
		inner(1, "", 0, texts("d"), 1, 2),
	}}
}

// The rows of the chapter's table of examples.
func TestExamples(t *testing.T) {
	for _, x := range []struct {
		lo, hi string
		most   int
		names  string
		want   answer
	}{
		{"", "", 9, down + takes(along, 2) + takes(next, 2), found("a=1 c=3 d=4 f=6")},
		{"c", "e", 9, down + takes(along, 1) + takes(next, 1), found("c=3 d=4")},
		{"a", "d", 9, down + takes(along, 2), found("a=1 c=3")},
		{"", "", 3, down + takes(along, 2) + takes(next, 1), found("a=1 c=3 d=4")},
		{"", "", 0, "ARGS", found("")},
		{"", "", -1, "ARGS", failed(api.ErrArg)},
	} {
		start(t, pairs(), x.lo, x.hi, x.most).ends(x.names, x.want)

		// By the calls alone: nothing ahead of the last step, and all at once behind it.
		m := scan.New(pairs().lay(t), []byte(x.lo), []byte(x.hi), x.most)
		for range count(x.names) - 1 {
			if through, took := m.Step(); through || took || answered(m) != found("") {
				t.Fatalf("%q to %q, %d, on its way: %v, %v, %v", x.lo, x.hi, x.most, through, took, answered(m))
			}
		}
		for range 2 {
			if through, took := m.Step(); !through || took || answered(m) != x.want {
				t.Errorf("%q to %q, %d: %v, %v, %v", x.lo, x.hi, x.most, through, took, answered(m))
			}
		}
	}
	m := scan.New(pairs().lay(t), nil, nil, 9)
	for through := false; !through; through, _ = m.Step() {
	}
	if answered(m) != found("a=1 c=3 d=4 f=6") {
		t.Errorf("nil to nil: %v", answered(m))
	}
}

// Each number of entries that may be wanted: those of ordinary trees, and as many steps as that takes.
func TestMost(t *testing.T) {
	all := strings.Fields("b=1 d=2 e= f=3 h=4 m=5 p=6 q=7")
	first := down + along + takes(along, 1)
	names := map[int]string{
		1: first,
		2: first + takes(next, 1),
		3: first + takes(next, 2),
		4: first + takes(next, 3),
		5: first + takes(next, 3) + takes(next, 1),
		6: first + takes(next, 3) + takes(next, 1) + takes(next, 1),
		7: first + takes(next, 3) + takes(next, 1) + takes(next, 1) + takes(next, 1),
		8: first + takes(next, 3) + takes(next, 1) + takes(next, 1) + takes(next, 2),
	}
	for most := 1; most <= 8; most++ {
		start(t, tall(), "", "", most).ends(names[most], found(strings.Join(all[:most], " ")))
	}
	for _, most := range []int{9, 10, 64, 65536, math.MaxInt} {
		start(t, tall(), "", "", most).ends(names[8], found(strings.Join(all, " ")))
	}
	start(t, lone("b", "1"), "", "", 1).ends(takes(down, 1), found("b=1"))
	start(t, lone("b", "1"), "", "", 2).ends(takes(down, 1), found("b=1"))
	start(t, lone("b", "1", "d", "2"), "", "", 1).ends(takes(down, 1), found("b=1"))
	start(t, lone(), "", "", 1).ends(down, found(""))

	// As many as are wanted, just at a leaf's end: its brother is not read, even if there is none of that number.
	lost := pairs().set(1, leaf("d", 7, "a", "1", "c", "3"))
	start(t, lost, "", "", 2).ends(down+takes(along, 2), found("a=1 c=3"))
	start(t, lost, "", "", 3).ends(down+takes(along, 2)+"WORD", failed(api.ErrArenaNode))
	// Entries ahead of lo don't count.
	start(t, pairs(), "c", "", 1).ends(down+takes(along, 1), found("c=3"))
	start(t, pairs(), "c", "", 2).ends(down+takes(along, 1)+takes(next, 1), found("c=3 d=4"))
	start(t, pairs(), "d", "", 1).ends(down+takes(along, 1), found("d=4"))
}

// A range that can have nothing, and a number of entries that can't be, at the first step: nothing is read, there need not even be an arena.
func TestArgs(t *testing.T) {
	long := strings.Repeat("k", 64)
	empty := [][2]string{
		{"b", "b"}, {"c", "b"}, {"b\x00", "b"}, {"bb", "b"}, {"\x00", "\x00"}, {"\xff", "\x00"}, {"\xff", "a"},
		{long, long}, {long + "k", long}, {long + "k", long + "k"}, {strings.Repeat("k", 1000), "k"},
	}
	wide := [][2]string{{"", ""}, {"a", ""}, {"", "\x00"}, {"", "a"}, {"a", "a\x00"}, {"a", "b"}, {long, long + "k"}, {"\xff", ""}}
	args := func(lo string, hi string, most int, want answer) {
		t.Helper()
		start(t, small(), lo, hi, most).ends("ARGS", want)
		held := start(t, lone("b", "1"), lo, hi, most)
		hold(held.a, 1)
		held.ends("ARGS", want)
		start(t, tree{9, 1, []api.Node{inner(1, "", 0, nil)}}, lo, hi, most).ends("ARGS", want)

		m := scan.New(nil, []byte(lo), []byte(hi), most)
		if got := answered(m); got != found("") {
			t.Fatalf("ahead of the step: %v", got)
		}
		for range 3 {
			through, took := m.Step()
			if fresh := m.Fresh(); !through || took || len(fresh) > 0 || answered(m) != want {
				t.Fatalf("%q to %q, %d: %v, %v, %s, %v; not %v", lo, hi, most, through, took, list(fresh), answered(m), want)
			}
		}
	}
	for _, x := range empty {
		for _, most := range []int{0, 1, 9, math.MaxInt} {
			args(x[0], x[1], most, found(""))
		}
	}
	for _, x := range wide {
		args(x[0], x[1], 0, found(""))
		if got := start(t, small(), x[0], x[1], 9).w.name(); got != "root" {
			t.Fatalf("%q to %q: %s", x[0], x[1], got)
		}
	}
	// A number below 0 comes ahead of a range that can have nothing.
	for _, x := range append(empty, wide...) {
		for _, most := range []int{-1, -2, math.MinInt} {
			args(x[0], x[1], most, failed(api.ErrArg))
		}
	}
}

// Where a range begins: at a key, between two, at a leaf's High, ahead of all, behind all; at keys of any length. lo itself is of the range.
func TestLo(t *testing.T) {
	three := down + along
	behind := func(names ...string) string { return strings.Join(names, "") }
	from1 := behind(takes(next, 3), takes(next, 1), takes(next, 1), takes(next, 2))
	from3 := behind(takes(next, 1), takes(next, 2))
	for _, x := range []struct{ lo, names, want string }{
		{"\x00", behind(three, takes(along, 1), from1), "b=1 d=2 e= f=3 h=4 m=5 p=6 q=7"},
		{"a", behind(three, takes(along, 1), from1), "b=1 d=2 e= f=3 h=4 m=5 p=6 q=7"},
		{"b", behind(three, takes(along, 1), from1), "b=1 d=2 e= f=3 h=4 m=5 p=6 q=7"},
		{"b\x00", behind(three, along, from1), "d=2 e= f=3 h=4 m=5 p=6 q=7"},
		{"c\xff", behind(three, along, from1), "d=2 e= f=3 h=4 m=5 p=6 q=7"},
		{"d", behind(three, along, takes(along, 3), takes(next, 1), from3), "d=2 e= f=3 h=4 m=5 p=6 q=7"},
		{"d\x00", behind(three, along, takes(along, 2), takes(next, 1), from3), "e= f=3 h=4 m=5 p=6 q=7"},
		{"f", behind(three, along, takes(along, 1), takes(next, 1), from3), "f=3 h=4 m=5 p=6 q=7"},
		{"f\x00", behind(three, along, along, takes(next, 1), from3), "h=4 m=5 p=6 q=7"},
		{"g", behind(three, takes(along, 1), from3), "h=4 m=5 p=6 q=7"},
		{"h" + strings.Repeat("\x00", 999), behind(three, along, from3), "m=5 p=6 q=7"},
		{"m", behind(three, takes(along, 1), takes(next, 2)), "m=5 p=6 q=7"},
		{"o" + strings.Repeat("o", 63), behind(three, along, takes(next, 2)), "p=6 q=7"},
		{"p", behind(three, along, takes(along, 2)), "p=6 q=7"},
		{"q", behind(three, along, takes(along, 1)), "q=7"},
		{"q\x00", behind(three, along, along), ""},
		{strings.Repeat("\xff", 65), behind(three, along, along), ""},
	} {
		start(t, tall(), x.lo, "", 99).ends(x.names, found(x.want))
	}
}

// Where a range ends: below hi, whatever the leaves' Highs are. A leaf whose High is not below hi is the last one; its brother is read, if hi is above by the least.
func TestHi(t *testing.T) {
	first := down + along + takes(along, 1)
	for _, x := range []struct{ hi, names, want string }{
		{"\x00", down + along + along, ""},
		{"a", down + along + along, ""},
		{"b", down + along + along, ""},
		{"b\x00", first, "b=1"},
		{"c", first, "b=1"},
		{"d", first, "b=1"},
		{"d\x00", first + takes(next, 1), "b=1 d=2"},
		{"e", first + takes(next, 1), "b=1 d=2"},
		{"f\x00", first + takes(next, 3), "b=1 d=2 e= f=3"},
		{"g", first + takes(next, 3), "b=1 d=2 e= f=3"},
		{"g\x00", first + takes(next, 3) + next, "b=1 d=2 e= f=3"},
		{"h", first + takes(next, 3) + next, "b=1 d=2 e= f=3"},
		{"h\x00", first + takes(next, 3) + takes(next, 1), "b=1 d=2 e= f=3 h=4"},
		{"m", first + takes(next, 3) + takes(next, 1), "b=1 d=2 e= f=3 h=4"},
		{"p", first + takes(next, 3) + takes(next, 1) + takes(next, 1), "b=1 d=2 e= f=3 h=4 m=5"},
		{"p\x00", first + takes(next, 3) + takes(next, 1) + takes(next, 1) + takes(next, 1), "b=1 d=2 e= f=3 h=4 m=5 p=6"},
		{strings.Repeat("\xff", 1000), first + takes(next, 3) + takes(next, 1) + takes(next, 1) + takes(next, 2), "b=1 d=2 e= f=3 h=4 m=5 p=6 q=7"},
	} {
		start(t, tall(), "", x.hi, 99).ends(x.names, found(x.want))
	}
}

// Both ends at once: within one leaf, over several, from a High to a High; one key alone, and none.
func TestRange(t *testing.T) {
	three := down + along
	for _, x := range []struct{ lo, hi, names, want string }{
		{"d", "e", three + along + takes(along, 1), "d=2"},
		{"e", "f", three + along + takes(along, 1), "e="},
		{"d\x00", "f", three + along + takes(along, 1), "e="},
		{"e", "e\x00", three + along + takes(along, 1), "e="},
		{"e\x00", "f", three + along + along, ""},
		{"d", "g", three + along + takes(along, 3), "d=2 e= f=3"},
		{"c", "d", three + along, ""},
		{"c", "e", three + along + takes(next, 1), "d=2"},
		{"f", "i", three + along + takes(along, 1) + takes(next, 1), "f=3 h=4"},
		{"g", "p", three + takes(along, 1) + takes(next, 1), "h=4 m=5"},
		{"i", "l", three + along, ""},
		{"i", "o", three + along + takes(next, 1), "m=5"},
		{"n", "o", three + along, ""},
		{"q\x00", "z", three + along + along, ""},
	} {
		start(t, tall(), x.lo, x.hi, 99).ends(x.names, found(x.want))
	}
	// Most of them, where the range has fewer, just as many, and more.
	for most, want := range map[int]string{1: "f=3", 2: "f=3 h=4", 3: "f=3 h=4", 99: "f=3 h=4"} {
		names := three + along + takes(along, 1)
		if most > 1 {
			names += takes(next, 1)
		}
		start(t, tall(), "f", "i", most).ends(names, found(want))
	}
}

// Leaves without entries: alone, at the beginning, in the midst, at the end, all of them.
func TestEmptyLeaves(t *testing.T) {
	start(t, lone(), "", "", 9).ends(down, found(""))
	start(t, lone(), "a", "z", 9).ends(down, found(""))
	start(t, tall().set(1, leaf("d", 2)), "", "e", 9).ends(down+along+along+takes(next, 1), found("d=2"))
	x := tall().set(2, leaf("g", 3)).set(3, leaf("m", 4))
	start(t, x, "", "", 2).ends(down+along+takes(along, 1)+next+next+takes(next, 1), found("b=1 m=5"))
	start(t, x, "d", "m", 9).ends(down+along+along+along+next, found(""))
	start(t, tall().set(5, leaf("", 0)), "n", "", 9).ends(down+along+along+next, found(""))
	for id, n := range x.nodes[:5] {
		n.Body = api.Body{}
		x = x.set(id+1, n)
	}
	start(t, x, "", "", 9).ends(down+along+along+next+next+next+next, found(""))
}

// Leaves of all sizes, and each number of entries that may be wanted of them.
func TestEachSize(t *testing.T) {
	for size := 1; size <= 64; size++ {
		var entries, want []string
		for i := range size {
			entries = append(entries, many(i), fmt.Sprint(i))
			want = append(want, fmt.Sprintf("%s=%d", many(i), i))
		}
		for _, most := range []int{1, 2, size - 1, size, size + 1} {
			if most > 0 {
				got := start(t, lone(entries...), "", "", most).finish()
				if got != found(strings.Join(want[:min(most, size)], " ")) {
					t.Fatalf("%d of %d: %v", most, size, got)
				}
			}
		}
		for _, i := range []int{0, size / 2, size - 1} {
			if got := start(t, lone(entries...), many(i), "", 99).finish(); got != found(strings.Join(want[i:], " ")) {
				t.Fatalf("from %d: %v", i, got)
			}
			if got := start(t, lone(entries...), "", many(i), 99).finish(); got != found(strings.Join(want[:i], " ")) {
				t.Fatalf("below %d: %v", i, got)
			}
		}
	}
}

// many is a text for each number, all of one length.
func many(i int) string { return fmt.Sprintf("k%03d", i) }

// Keys of inner nodes lead the way: they are nobody's entries.
func TestInnerKeys(t *testing.T) {
	x := small().set(2, leaf("", 0, "z", "3"))
	start(t, x, "", "", 9).ends(down+takes(along, 2)+takes(next, 1), found("b=1 d=2 z=3"))
	start(t, x, "m", "n", 9).ends(down+along, found(""))
}

// A leaf that no inner node knows is come to by its left brother.
func TestNobodysChild(t *testing.T) {
	x := pairs().set(3, inner(1, "", 0, nil, 1))
	start(t, x, "", "", 9).ends(down+takes(along, 2)+takes(next, 2), found("a=1 c=3 d=4 f=6"))
	start(t, x, "e", "", 9).ends(down+along+takes(along, 1), found("f=6"))
}

// The map at a leaf's last step is told, whatever it was at another leaf's: so the whole may be a map that there never was.
func TestFuzzy(t *testing.T) {
	r := start(t, small(), "", "", 9)
	r.on(down + takes(along, 2))
	lay(r.a, 1, leaf("m", 2, "a", "9", "d", "2"))
	lay(r.a, 2, leaf("", 0, "m", "8", "z", "9"))
	r.ends(takes(next, 2), found("b=1 d=2 m=8 z=9"))
}

// WORD: one that is odd is read once more, as long as it is so; nothing else is. Whether the latch is given back with a change does not matter.
func TestOddWord(t *testing.T) {
	for _, changed := range []bool{false, true} {
		for _, waits := range []int{1, 2, 7, 100} {
			r := start(t, pairs(), "", "", 9)
			hold(r.a, 3)
			r.on("root " + strings.Repeat("word ", waits))
			r.a.Unlock(3, changed)
			r.on("word head body valid ")
			hold(r.a, 1)
			r.on(strings.Repeat("word ", waits))
			r.a.Unlock(1, changed)
			r.on(takes(along, 2))
			hold(r.a, 2)
			r.on(strings.Repeat("WORD ", waits))
			r.a.SetBody(2, leaf("", 0, "e", "5").Body)
			r.on(strings.Repeat("WORD ", waits))
			r.a.Unlock(2, changed)
			r.ends(takes(next, 1), found("a=1 c=3 e=5"))
		}
	}
	// Latches of other nodes are not asked.
	r := start(t, pairs(), "", "", 9)
	r.on(down + takes(along, 2))
	hold(r.a, 1)
	hold(r.a, 3)
	r.ends(takes(next, 2), found("a=1 c=3 d=4 f=6"))
}

// VALID: a leaf that was turned between WORD and VALID, by a change or by a latch alone, is read once more: that leaf, and not the way from the root on.
func TestTurnedBetween(t *testing.T) {
	list := strings.Fields(next)
	for _, x := range []struct {
		what string
		turn func(a *arena.Arena)
		want string
	}{
		{"other entries", func(a *arena.Arena) { lay(a, 2, leaf("", 0, "d", "5", "e", "6", "g", "7")) }, "a=1 c=3 d=5 e=6 g=7"},
		{"no entries", func(a *arena.Arena) { lay(a, 2, leaf("", 0)) }, "a=1 c=3"},
		{"the same", func(a *arena.Arena) { lay(a, 2, read(a, 2)) }, "a=1 c=3 d=4 f=6"},
		{"a latch", func(a *arena.Arena) { hold(a, 2); a.Unlock(2, true) }, "a=1 c=3 d=4 f=6"},
		{"several latches", func(a *arena.Arena) {
			for range 5 {
				hold(a, 2)
				a.Unlock(2, true)
			}
		}, "a=1 c=3 d=4 f=6"},
		{"another root too", func(a *arena.Arena) { lay(a, 2, read(a, 2)); a.Grow(3, 1) }, "a=1 c=3 d=4 f=6"},
	} {
		taken := len(strings.Fields(x.want)) - 2
		last := takes(next, taken)
		if taken == 0 {
			last = next
		}
		for steps := range len(list) + 1 {
			r := start(t, pairs(), "", "", 9)
			r.on(down + takes(along, 2))
			if steps == 0 {
				x.turn(r.a)
				r.ends(last, found(x.want))
				continue
			}
			if steps == len(list) { // behind VALID nothing counts
				r.ends(takes(next, 2), found("a=1 c=3 d=4 f=6"))
				x.turn(r.a)
				r.stays()
				continue
			}
			r.on(strings.Join(list[:steps], " "))
			x.turn(r.a)
			r.on(strings.Join(list[steps:], " "))
			r.ends(last, found(x.want))
		}
	}
}

// A leaf that is turned at each of its readings is read each time once more; what it has at the last one is taken.
func TestTurnedOften(t *testing.T) {
	r := start(t, pairs(), "", "", 9)
	r.on(down + takes(along, 2))
	for i := range 30 {
		r.on("WORD HEAD")
		lay(r.a, 2, leaf("", 0, "d", fmt.Sprint(i)))
		r.on("BODY VALID")
	}
	r.ends(takes(next, 1), found("a=1 c=3 d=29"))
}

// A latch that is taken behind WORD, and still held at VALID: WORD, which waits for it then. One that was given back without a change meanwhile is as if it had not been.
func TestHeldAtValid(t *testing.T) {
	for _, steps := range []string{"WORD", "WORD HEAD", "WORD HEAD BODY"} {
		rest := strings.TrimPrefix("WORD HEAD BODY VALID", steps)
		r := start(t, pairs(), "", "", 9)
		r.on(down + takes(along, 2) + steps)
		hold(r.a, 2)
		r.on(rest + " WORD WORD WORD")
		r.a.SetBody(2, leaf("", 0, "x", "9").Body)
		r.a.Unlock(2, true)
		r.ends(takes(next, 1), found("a=1 c=3 x=9"))

		r = start(t, pairs(), "", "", 9)
		r.on(down + takes(along, 2) + steps)
		hold(r.a, 2)
		r.a.Unlock(2, false)
		r.ends(takes(rest, 2), found("a=1 c=3 d=4 f=6"))
	}
}

// DOWN: the first leaf is read by the descent, which begins anew with the root, if something was turned on its way.
func TestTurnedOnTheWayDown(t *testing.T) {
	list := strings.Fields(along)
	for steps := 1; steps < len(list); steps++ {
		r := start(t, pairs(), "", "", 9)
		r.on(down + strings.Join(list[:steps], " "))
		lay(r.a, 1, leaf("d", 2, "b", "2"))
		r.on(strings.Join(list[steps:], " "))
		r.ends(down+takes(along, 1)+takes(next, 2), found("b=2 d=4 f=6"))

		r = start(t, pairs(), "", "", 9)
		r.on("root " + strings.Join(list[:steps], " "))
		lay(r.a, 3, read(r.a, 3))
		r.on(strings.Join(list[steps:], " "))
		r.ends(down+takes(along, 2)+takes(next, 2), found("a=1 c=3 d=4 f=6"))
	}
}

// halve makes a leaf two: what is not below the key goes to a new slot, the right brother.
func halve(a *arena.Arena, id int, key string) {
	n := read(a, id)
	at := slices.IndexFunc(n.Keys, func(k []byte) bool { return string(k) >= key })
	fresh, _ := a.Alloc()
	a.SetHead(fresh, n.Head)
	a.SetBody(fresh, api.Body{Keys: n.Keys[at:], Values: n.Values[at:]})
	a.Unlock(fresh, true)
	lay(a, id, api.Node{Head: api.Head{High: []byte(key), Right: fresh}, Body: api.Body{Keys: n.Keys[:at], Values: n.Values[:at]}})
}

// A leaf that was cut in two meanwhile: ahead of its reading, or while it is read, its halves are gone along; behind, its brother of then is next, and the new half is not read once more.
func TestCutInTwo(t *testing.T) {
	all := found("a=1 c=3 d=4 f=6")
	for at := range strings.Fields(along) { // the first leaf
		r := start(t, pairs(), "", "", 9)
		r.on(down + strings.Join(strings.Fields(along)[:at], " "))
		halve(r.a, 1, "c")
		if at > 0 {
			r.on(strings.Join(strings.Fields(along)[at:], " ") + " " + down)
		}
		r.ends(takes(along, 1)+takes(next, 1)+takes(next, 2), all)
	}
	for at := range strings.Fields(next) { // the last leaf
		r := start(t, pairs(), "", "", 9)
		r.on(down + takes(along, 2) + strings.Join(strings.Fields(next)[:at], " "))
		halve(r.a, 2, "f")
		if at > 0 {
			r.on(strings.Join(strings.Fields(next)[at:], " "))
		}
		r.ends(takes(next, 1)+takes(next, 1), all)
	}
	// Behind: its Right of then is next.
	r := start(t, pairs(), "", "", 9)
	r.on(down + takes(along, 2))
	halve(r.a, 1, "c")
	r.ends(takes(next, 2), all)
	// Twice, the one behind the other, and with an entry more in each half.
	r = start(t, pairs(), "", "", 9)
	r.on(down + takes(along, 2) + "WORD HEAD")
	lay(r.a, 2, leaf("", 0, "d", "4", "e", "5", "f", "6"))
	halve(r.a, 2, "e")
	r.on("BODY VALID WORD HEAD BODY")
	halve(r.a, 4, "f")
	r.ends("VALID+1 "+takes(next, 1)+takes(next, 1), found("a=1 c=3 d=4 e=5 f=6"))
	// A range that ends at the key between, or ahead of it: the new half is not read.
	for hi, want := range map[string]string{"f": "a=1 c=3 d=4", "e": "a=1 c=3 d=4"} {
		r = start(t, pairs(), "", hi, 9)
		r.on(down + takes(along, 2))
		halve(r.a, 2, "f")
		r.ends(takes(next, 1), found(want))
	}
	// The leaf in which lo was is cut below lo, behind the reading of its father: the descent moves right.
	r = start(t, pairs(), "c", "", 9)
	r.on(down)
	halve(r.a, 1, "c")
	r.ends(along+takes(along, 1)+takes(next, 2), found("c=3 d=4 f=6"))
}

// Fresh: ahead of the first step, between steps, behind the end, twice in a row: just what was taken since it was called last. Answer hangs on it in nothing.
func TestFresh(t *testing.T) {
	names := strings.Fields(down + along + next)
	for _, calls := range [][]int{{}, {0}, {9}, {13}, {0, 9, 13}, {8, 9, 9, 9, 10}, {0, 0}, {13, 13}, {1, 2, 3, 4, 5, 6, 7, 8, 9, 10, 11, 12, 13}, {9, 13}, {9, 12}, {10, 11}} {
		m := scan.New(pairs().lay(t), nil, nil, 9)
		told, asked := 0, 0
		for steps := range len(names) + 1 {
			taken := 0
			switch {
			case steps == 13:
				taken = 4
			case steps >= 9:
				taken = 2
			}
			all := strings.Fields("a=1 c=3 d=4 f=6")
			for ; asked < len(calls) && calls[asked] == steps; asked++ {
				if got, want := list(m.Fresh()), strings.Join(all[told:taken], " "); got != want {
					t.Fatalf("%d: behind %d steps: %q; not %q", calls, steps, got, want)
				}
				told = taken
			}
			if steps < len(names) {
				m.Step()
			}
		}
		if got := answered(m); got != found("a=1 c=3 d=4 f=6") {
			t.Fatalf("%d: %v", calls, got)
		}
	}
}

// Answer: nothing ahead of the end, though something is taken; all behind it, several times, whether Fresh was called or not.
func TestAnswer(t *testing.T) {
	r := start(t, tall(), "", "", 9)
	for names := strings.Fields(down + along + takes(along, 1) + takes(next, 3) + takes(next, 1) + takes(next, 1) + "WORD HEAD BODY"); len(names) > 0; names = names[1:] {
		r.on(names[0])
		for range 3 {
			if l, err := r.m.Answer(); len(l) > 0 || err != api.OK {
				t.Fatalf("behind %s: %s, %d", names[0], list(l), err)
			}
		}
	}
	r.ends("VALID+2", found("b=1 d=2 e= f=3 h=4 m=5 p=6 q=7"))
	for range 3 {
		if got := answered(r.m); got != found("b=1 d=2 e= f=3 h=4 m=5 p=6 q=7") {
			t.Fatalf("%v", got)
		}
	}
}

// A machine that is through stays so, whatever is turned later.
func TestThrough(t *testing.T) {
	for _, x := range []struct {
		tree   tree
		lo, hi string
		most   int
	}{
		{pairs(), "", "", 9}, {pairs(), "", "", 1}, {pairs(), "", "d", 9}, {lone(), "", "", 9},
		{pairs(), "", "", 0}, {pairs(), "", "", -1}, {pairs(), "b", "b", 9},
		{pairs().set(1, leaf("d", 9, "a", "1")), "", "", 9},
		{tree{9, 1, []api.Node{inner(1, "", 0, nil)}}, "", "", 9},
	} {
		r := start(t, x.tree, x.lo, x.hi, x.most)
		was := r.finish()
		for _, do := range []func(){
			func() { lay(r.a, 1, leaf("", 0, "b", "8", "c", "9")) },
			func() { hold(r.a, 1) },
			func() { other, _ := arena.New(1); *r.a = *other },
		} {
			do()
			r.stays()
			if got := answered(r.m); got != was {
				t.Fatalf("%v; then %v", was, got)
			}
		}
	}
}
