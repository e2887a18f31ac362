package arena_test

import (
	"fmt"
	"math"
	"slices"
	"sync"
	"testing"

	"coppice/api"
	"coppice/arena"
)

// mirror is an arena by the chapter's words, in words: what each slot's word is, and what its head and body say.
type mirror struct {
	nodes, root int
	words       []uint64
	heads       []string
	bodies      []string
}

func newMirror(nodes int) *mirror {
	m := &mirror{nodes: nodes, root: 1}
	m.take(0)
	return m
}

func (m *mirror) take(word uint64) {
	m.words = append(m.words, word)
	m.heads = append(m.heads, toldHead(api.Head{}))
	m.bodies = append(m.bodies, toldBody(api.Body{}))
}

func (m *mirror) has(id int) bool { return id >= 1 && id <= len(m.words) }

func (m *mirror) held(id int) bool { return m.words[id-1]%2 == 1 }

// state is what the function of the same name is to tell of the arena.
func (m *mirror) state() string {
	var held []int
	slots := ""
	for i, word := range m.words {
		if m.held(i + 1) {
			held = append(held, i+1)
		}
		slots += fmt.Sprintf("%d: %d; %s; %s\n", i+1, word, m.heads[i], m.bodies[i])
	}
	return fmt.Sprintf("used %d, left %d, root %d, held %d\n", len(m.words), m.nodes-len(m.words), m.root, held) + slots
}

func (m *mirror) alloc() (int, api.Errno) {
	if len(m.words) == m.nodes {
		return 0, api.ErrFull
	}
	m.take(1)
	return len(m.words), api.OK
}

func (m *mirror) lock(id int, word uint64) (bool, api.Errno) {
	if !m.has(id) {
		return false, api.ErrArenaNode
	}
	if m.words[id-1] != word || word%2 == 1 {
		return false, api.OK
	}
	m.words[id-1]++
	return true, api.OK
}

func (m *mirror) unlock(id int, changed bool) api.Errno {
	if !m.has(id) {
		return api.ErrArenaNode
	}
	if !m.held(id) {
		return api.ErrArenaLatch
	}
	if changed {
		m.words[id-1]++
	} else {
		m.words[id-1]--
	}
	return api.OK
}

func (m *mirror) set(id int, list []string, told string) api.Errno {
	if !m.has(id) {
		return api.ErrArenaNode
	}
	if !m.held(id) {
		return api.ErrArenaLatch
	}
	list[id-1] = told
	return api.OK
}

func (m *mirror) grow(old, root int) (bool, api.Errno) {
	if !m.has(root) {
		return false, api.ErrArenaNode
	}
	if m.root != old {
		return false, api.OK
	}
	m.root = root
	return true, api.OK
}

// turn does one call on both, picked by dice, and tells what each answered.
func (m *mirror) turn(d *dice, a *arena.Arena) (string, string) {
	id := d.below(m.nodes+3) - 1
	switch d.below(7) {
	case 0:
		x, e1 := a.Alloc()
		y, e2 := m.alloc()
		return fmt.Sprint("Alloc ", x, e1), fmt.Sprint("Alloc ", y, e2)
	case 1, 2:
		word := uint64(d.below(4))
		if m.has(id) && d.below(4) > 0 {
			word = m.words[id-1] + uint64(d.pick(0, 0, 0, 1, 2, -1, -2))
		}
		x, e1 := a.Lock(id, word)
		y, e2 := m.lock(id, word)
		return fmt.Sprint("Lock ", id, word, x, e1), fmt.Sprint("Lock ", id, word, y, e2)
	case 3:
		changed := d.below(2) == 0
		return fmt.Sprint("Unlock ", id, changed, a.Unlock(id, changed)), fmt.Sprint("Unlock ", id, changed, m.unlock(id, changed))
	case 4:
		h := d.head()
		return fmt.Sprint("SetHead ", id, a.SetHead(id, h)), fmt.Sprint("SetHead ", id, m.set(id, m.heads, toldHead(h)))
	case 5:
		b := d.body()
		return fmt.Sprint("SetBody ", id, a.SetBody(id, b)), fmt.Sprint("SetBody ", id, m.set(id, m.bodies, toldBody(b)))
	}
	old := d.pick(m.root, m.root, id, 0)
	root := d.below(m.nodes+3) - 1
	x, e1 := a.Grow(old, root)
	y, e2 := m.grow(old, root)
	return fmt.Sprint("Grow ", old, root, x, e1), fmt.Sprint("Grow ", old, root, y, e2)
}

// P2, P3, P10.3: many calls in any order answer what the chapter's words say, and change that alone.
func TestAnyCalls(t *testing.T) {
	for seed := range 60 {
		d := dice(seed)
		nodes := 1 + d.below(6)
		a, m := newArena(t, nodes, 1), newMirror(nodes)
		for range 300 {
			got, want := m.turn(&d, a)
			if got != want {
				t.Fatalf("seed %d: %s; not %s", seed, got, want)
			}
			if now := state(t, a); now != m.state() {
				t.Fatalf("seed %d, behind %s: %s\nnot %s", seed, got, now, m.state())
			}
		}
	}
}

// P10.1: between a Lock that answers true and the Unlock behind it no other one does, whatever else is called.
func TestOneHolder(t *testing.T) {
	for seed := range 40 {
		d := dice(seed)
		a := newArena(t, 3, 3)
		held := []bool{false, true, true} // Alloc gave the latch to whoever called it
		for range 400 {
			id := 1 + d.below(3)
			switch d.below(5) {
			case 0:
				if err := a.Unlock(id, d.below(2) == 0); (err == api.OK) != held[id-1] {
					t.Fatalf("Unlock(%d): %d; held %v", id, err, held)
				}
				held[id-1] = false
			case 1:
				a.SetHead(id, d.head())
				a.SetBody(id, d.body())
				a.Grow(a.Root(), id)
			default:
				now, _ := a.Word(id)
				for word := range now + 4 {
					is, _ := a.Lock(id, word)
					if is && held[id-1] {
						t.Fatalf("Lock(%d, %d) of a held latch", id, word)
					}
					held[id-1] = held[id-1] || is
				}
				if !held[id-1] {
					t.Fatalf("nobody could lock %d", id)
				}
			}
		}
	}
}

// P10.1: a word is read and changed in one piece: of many hands at once just one holds the latch at a time.
func TestOneHolderOfMany(t *testing.T) {
	const hands, turns = 8, 20000
	a := newArena(t, 1, 1)
	took, wrong := make([]uint64, hands), make([]int, hands)
	shared := uint64(0) // turned by the latch's holder alone, and by nothing else kept whole
	var all sync.WaitGroup
	for hand := range hands {
		all.Go(func() {
			for range turns {
				word, _ := a.Word(1)
				if is, _ := a.Lock(1, word); !is {
					continue
				}
				took[hand]++
				shared++
				if a.Unlock(1, true) != api.OK {
					wrong[hand]++
				}
			}
		})
	}
	all.Wait()
	sum := uint64(0)
	for hand := range hands {
		sum += took[hand]
		if wrong[hand] > 0 {
			t.Errorf("hand %d: %d latches were not its own", hand, wrong[hand])
		}
	}
	if sum == 0 || shared != sum {
		t.Errorf("%d turns, %d seen", sum, shared)
	}
	wantWord(t, a, 1, 2*sum)
}

// P10.2: where a slot's word is even, and the same as before, and no Unlock with false was answered OK between: nothing was set there between.
func TestSeen(t *testing.T) {
	same := 0
	for seed := range 40 {
		d := dice(seed)
		a := newArena(t, 2, 2)
		sets := make([]int, 3)
		behind := map[[2]uint64]int{} // by slot and even word: how many things were set there, when it was that
		for range 600 {
			id := 1 + d.below(2)
			word, _ := a.Word(id)
			switch d.below(6) {
			case 0, 1:
				a.Lock(id, word)
			case 2:
				a.Unlock(id, true)
			case 3:
				if a.SetHead(id, d.head()) == api.OK {
					sets[id]++
				}
			case 4:
				if a.SetBody(id, d.body()) == api.OK {
					sets[id]++
				}
			}
			for id := 1; id <= 2; id++ {
				word, _ := a.Word(id)
				if word%2 == 1 {
					continue
				}
				at := [2]uint64{uint64(id), word}
				if before, is := behind[at]; is {
					same++
					if sets[id] != before {
						t.Fatalf("slot %d at %d: %d things set, then %d", id, word, before, sets[id])
					}
				}
				behind[at] = sets[id]
			}
		}
	}
	if same < 1000 {
		t.Errorf("%d words that were seen twice", same)
	}
}

// P10.2: whoever holds the latch for a while, and gives it back as changed, is seen: the word never comes back.
func TestChangesAreSeen(t *testing.T) {
	a := newArena(t, 1, 1)
	before := uint64(0)
	for range 1000 {
		word, _ := a.Word(1)
		if word%2 == 1 || word < before {
			t.Fatalf("%d behind %d", word, before)
		}
		wantLock(t, a, 1, word, true)
		wantUnlock(t, a, 1, true, api.OK)
		before = word + 1
	}
}

// checkSet holds SetHead and SetBody of a slot, and what is read then, against P3 and P10.3.
func checkSet(t *testing.T, a *arena.Arena, id int, h api.Head, b api.Body) {
	t.Helper()
	what := toldHead(h) + "; " + toldBody(b)
	in := cells(h, b)
	was := states(in)
	if e1, e2 := a.SetHead(id, h), a.SetBody(id, b); e1 != api.OK || e2 != api.OK {
		t.Fatalf("%s: %d, %d", what, e1, e2)
	}
	read := func() (api.Head, api.Body) {
		h, _ := a.Head(id)
		b, _ := a.Body(id)
		return h, b
	}
	h1, b1 := read()
	h2, b2 := read()
	if !slices.Equal(states(in), was) {
		t.Fatalf("%s: what was handed in is another one now", what)
	}
	turnAll(in)
	wantRead := func(when string) {
		t.Helper()
		if h, b := read(); toldHead(h)+"; "+toldBody(b) != what {
			t.Fatalf("%s: %s; %s, when %s", what, toldHead(h), toldBody(b), when)
		}
	}
	wantRead("what was handed in was changed")
	turnAll(in)
	one, two := cells(h1, b1), cells(h2, b2)
	if !apart(append(slices.Clone(one), two...)) {
		t.Fatalf("%s: answers share memory", what)
	}
	now := states(in)
	turnAll(one)
	turnAll(two)
	wantRead("what was answered was changed")
	if !slices.Equal(states(in), now) {
		t.Fatalf("%s: an answer lies in what was handed in", what)
	}
}

// P3, P10.3: what is set is copied, what is read is new memory, and no two lists of it share any.
func TestMemory(t *testing.T) {
	d := dice(3)
	a := newArena(t, 3, 3)
	checkSet(t, a, 2, api.Head{}, api.Body{})
	checkSet(t, a, 2, roomyHead(api.Head{}), roomyBody(api.Body{}))
	checkSet(t, a, 2, roomyHead(api.Head{High: []byte("m")}), roomyBody(api.Body{Keys: texts("", "a"), Values: texts("", "1"), Kids: []int{1, 2, 3}}))
	for range 500 {
		checkSet(t, a, 2+d.below(2), roomyHead(d.head()), roomyBody(d.body()))
	}
}

// P3: one text and one list in several places: each answer has its own.
func TestMemoryOfOneText(t *testing.T) {
	a := newArena(t, 2, 2)
	text := roomy([]byte("text"))
	list := roomyTexts(texts("a", "b"))
	for _, b := range []api.Body{
		{Keys: [][]byte{text, text[:2], text[1:3]}, Values: [][]byte{text, text}},
		{Keys: list, Values: list},
		{Keys: list[:1], Values: list[1:2]},
	} {
		if e1, e2 := a.SetHead(2, api.Head{High: text}), a.SetBody(2, b); e1 != api.OK || e2 != api.OK {
			t.Fatalf("%d, %d", e1, e2)
		}
		wantHead(t, a, 2, api.Head{High: text})
		wantBody(t, a, 2, b)
		h1, _ := a.Head(2)
		b1, _ := a.Body(2)
		if !apart(append(cells(h1, b1), textCell(text), newRowsCell(list), textCell(list[0]), textCell(list[1]))) {
			t.Errorf("%s: memory is shared", toldBody(b))
		}
	}
}

// P3: where a set is refused what was handed in stays as it was, too.
func TestMemoryOfRefused(t *testing.T) {
	d := dice(5)
	a := newArena(t, 2, 1)
	for range 100 {
		h, b := roomyHead(d.head()), roomyBody(d.body())
		in := cells(h, b)
		was := states(in)
		for _, id := range []int{1, 2, 0} {
			a.SetHead(id, h)
			a.SetBody(id, b)
		}
		if !slices.Equal(states(in), was) {
			t.Fatalf("%s; %s: changed", toldHead(h), toldBody(b))
		}
	}
}

// P10.3: slots know nothing of one another, though one thing was set in both, or what was read of one set in another.
func TestSlotsApart(t *testing.T) {
	d := dice(7)
	a := newArena(t, 3, 3)
	wantLock(t, a, 1, 0, true)
	for range 300 {
		h, b := d.head(), d.body()
		a.SetHead(1, h)
		a.SetHead(2, h)
		a.SetBody(1, b)
		a.SetBody(2, b)
		h1, _ := a.Head(1)
		b1, _ := a.Body(1)
		a.SetHead(3, h1)
		a.SetBody(3, b1)
		turnAll(cells(h1, b1))
		h2, b2 := d.head(), d.body()
		a.SetHead(2, h2)
		a.SetBody(2, b2)
		for _, id := range []int{1, 3} {
			wantHead(t, a, id, h)
			wantBody(t, a, id, b)
		}
		wantHead(t, a, 2, h2)
		wantBody(t, a, 2, b2)
		for id := 1; id <= 3; id++ {
			wantWord(t, a, id, 1)
		}
	}
}

// P3: what Held answers is new memory.
func TestMemoryOfHeld(t *testing.T) {
	a := newArena(t, 9, 6)
	one, two := a.Held(), a.Held()
	if !apart([]cell{numbersCell(one), numbersCell(two)}) {
		t.Error("two answers share memory")
	}
	stays(t, a, "an answer changed", func() { turnAll([]cell{numbersCell(one), numbersCell(two)}) })
	wantHeld(t, a, 2, 3, 4, 5, 6)
}

// Reading changes nothing, and answers twice the same.
func TestReadingChangesNothing(t *testing.T) {
	a := newArena(t, 4, 3)
	wantUnlock(t, a, 3, true, api.OK)
	for id := -1; id <= 5; id++ {
		stays(t, a, "a look", func() {
			a.Word(id)
			a.Head(id)
			a.Body(id)
			a.Root()
			a.Used()
			a.Left()
			a.Held()
		})
	}
}

// P1: no call panics at any argument.
func TestAnyArguments(t *testing.T) {
	numbers := []int{math.MinInt, math.MinInt + 1, -65537, -1, 0, 1, 2, 3, 4, 65535, 65536, 65537, 1 << 32, math.MaxInt - 1, math.MaxInt}
	d := dice(9)
	for _, nodes := range numbers {
		arena.New(nodes)
	}
	a := newArena(t, 3, 2)
	for _, id := range numbers {
		for _, other := range numbers {
			a.Word(id)
			a.Lock(id, uint64(other))
			a.Head(id)
			a.Body(id)
			a.SetHead(id, d.head())
			a.SetBody(id, d.body())
			a.SetHead(id, api.Head{})
			a.SetBody(id, api.Body{Keys: [][]byte{nil, {}}, Values: [][]byte{nil}, Kids: []int{}})
			a.Grow(id, other)
			a.Unlock(id, d.below(2) == 0)
			a.Held()
		}
		a.Alloc()
	}
	if a.Used() != 3 || a.Left() != 0 {
		t.Errorf("used %d, left %d", a.Used(), a.Left())
	}
}
