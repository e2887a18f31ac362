package arena_test

import (
	"bytes"
	"fmt"
	"math"
	"slices"
	"strings"
	"testing"

	"coppice/api"
	"coppice/arena"
)

// dice are numbers below a bound, the same ones at each run.
type dice uint64

func (d *dice) below(n int) int {
	x := uint64(*d)*6364136223846793005 + 1442695040888963407
	*d = dice(x)
	return int((x >> 33) % uint64(n))
}

// pick is one of some numbers.
func (d *dice) pick(l ...int) int { return l[d.below(len(l))] }

// text are so many bytes.
func (d *dice) text(size int) []byte {
	b := make([]byte, size)
	for i := range b {
		b[i] = byte(d.below(256))
	}
	return b
}

// head and body are of any form: an arena does not ask whether a node may be.
func (d *dice) head() api.Head {
	return api.Head{
		Level: d.pick(0, 0, 1, 2, 32, 33, -1, math.MinInt, math.MaxInt),
		High:  d.text(d.pick(0, 1, 2, 64, 65, 300)),
		Right: d.pick(0, 1, 2, 65537, -1, math.MinInt, math.MaxInt),
	}
}

func (d *dice) body() api.Body {
	var b api.Body
	for range d.below(5) {
		b.Keys = append(b.Keys, d.text(d.pick(0, 1, 2, 64, 65)))
	}
	for range d.below(5) {
		b.Values = append(b.Values, d.text(d.pick(0, 1, 256, 257)))
	}
	for range d.below(5) {
		b.Kids = append(b.Kids, d.pick(0, 1, 2, 65537, -1, math.MinInt, math.MaxInt))
	}
	return b
}

func texts(l ...string) [][]byte {
	var out [][]byte
	for _, s := range l {
		out = append(out, []byte(s))
	}
	return out
}

// told is a head or a body in words; a list that is nil is told as one that is empty.
func toldHead(h api.Head) string {
	return fmt.Sprintf("level %d, High %q, Right %d", h.Level, h.High, h.Right)
}

func toldBody(b api.Body) string {
	return fmt.Sprintf("keys %q, values %q, kids %d", b.Keys, b.Values, b.Kids)
}

// newArena is an arena of so many slots, of which so many are taken: all but the first one are held.
func newArena(t *testing.T, nodes, used int) *arena.Arena {
	t.Helper()
	a, err := arena.New(nodes)
	if a == nil || err != api.OK {
		t.Fatalf("New(%d): %v, %d", nodes, a, err)
	}
	for id := 2; id <= used; id++ {
		if got, err := a.Alloc(); got != id || err != api.OK {
			t.Fatalf("Alloc: %d, %d; not %d", got, err, id)
		}
	}
	return a
}

// state is all that an arena tells, in words.
func state(t *testing.T, a *arena.Arena) string {
	t.Helper()
	var s strings.Builder
	fmt.Fprintf(&s, "used %d, left %d, root %d, held %d\n", a.Used(), a.Left(), a.Root(), a.Held())
	for id := 1; id <= a.Used(); id++ {
		word, e1 := a.Word(id)
		head, e2 := a.Head(id)
		body, e3 := a.Body(id)
		if e1 != api.OK || e2 != api.OK || e3 != api.OK {
			t.Fatalf("slot %d: %d, %d, %d", id, e1, e2, e3)
		}
		fmt.Fprintf(&s, "%d: %d; %s; %s\n", id, word, toldHead(head), toldBody(body))
	}
	return s.String()
}

// stays: does a call leave an arena as it was?
func stays(t *testing.T, a *arena.Arena, what string, call func()) {
	t.Helper()
	was := state(t, a)
	call()
	if now := state(t, a); now != was {
		t.Fatalf("%s: %s\nfrom %s", what, now, was)
	}
}

func wantWord(t *testing.T, a *arena.Arena, id int, want uint64) {
	t.Helper()
	if word, err := a.Word(id); word != want || err != api.OK {
		t.Errorf("Word(%d): %d, %d; not %d", id, word, err, want)
	}
}

func wantHead(t *testing.T, a *arena.Arena, id int, want api.Head) {
	t.Helper()
	if h, err := a.Head(id); toldHead(h) != toldHead(want) || err != api.OK {
		t.Errorf("Head(%d): %s, %d; not %s", id, toldHead(h), err, toldHead(want))
	}
}

func wantBody(t *testing.T, a *arena.Arena, id int, want api.Body) {
	t.Helper()
	if b, err := a.Body(id); toldBody(b) != toldBody(want) || err != api.OK {
		t.Errorf("Body(%d): %s, %d; not %s", id, toldBody(b), err, toldBody(want))
	}
}

// wantLock holds Lock against what it is to answer; false must leave all as it was.
func wantLock(t *testing.T, a *arena.Arena, id int, word uint64, want bool) {
	t.Helper()
	was := state(t, a)
	is, err := a.Lock(id, word)
	if is != want || err != api.OK {
		t.Fatalf("Lock(%d, %d): %v, %d; not %v", id, word, is, err, want)
	}
	if now := state(t, a); !want && now != was {
		t.Fatalf("Lock(%d, %d): %s\nfrom %s", id, word, now, was)
	}
	if want {
		wantWord(t, a, id, word+1)
	}
}

func wantUnlock(t *testing.T, a *arena.Arena, id int, changed bool, want api.Errno) {
	t.Helper()
	if err := a.Unlock(id, changed); err != want {
		t.Fatalf("Unlock(%d, %v): %d; not %d", id, changed, err, want)
	}
}

func wantHeld(t *testing.T, a *arena.Arena, want ...int) {
	t.Helper()
	if held := a.Held(); !slices.Equal(held, want) {
		t.Errorf("Held: %d; not %d", held, want)
	}
}

// cell is a piece of memory, its spare room too: how it is now, and a way to write over it, and back.
type cell interface {
	state() string
	turn()
}

type textCell []byte

func (c textCell) state() string { return string(c[:cap(c)]) }
func (c textCell) turn() {
	c = c[:cap(c)]
	for i := range c {
		c[i] ^= 0x5a
	}
}

type numbersCell []int

func (c numbersCell) state() string { return fmt.Sprint([]int(c[:cap(c)])) }
func (c numbersCell) turn() {
	c = c[:cap(c)]
	for i := range c {
		c[i] ^= 0x5a
	}
}

// rowsCell is the memory of a list of texts alone: its state tells where its texts lie, not what they say.
type rowsCell struct{ now, other [][]byte }

func newRowsCell(l [][]byte) *rowsCell { return &rowsCell{l[:cap(l)], make([][]byte, cap(l))} }

func (c *rowsCell) state() string {
	s := ""
	for _, text := range c.now {
		s += fmt.Sprintf("%p %d, ", text, len(text))
	}
	return s
}

func (c *rowsCell) turn() {
	for i := range c.now {
		c.now[i], c.other[i] = c.other[i], c.now[i]
	}
}

// cells are the memory of a head and a body, piece by piece.
func cells(h api.Head, b api.Body) []cell {
	l := []cell{textCell(h.High), newRowsCell(b.Keys), newRowsCell(b.Values), numbersCell(b.Kids)}
	for _, text := range slices.Concat(b.Keys, b.Values) {
		l = append(l, textCell(text))
	}
	return l
}

func states(l []cell) []string {
	var out []string
	for _, c := range l {
		out = append(out, c.state())
	}
	return out
}

func turnAll(l []cell) {
	for _, c := range l {
		c.turn()
	}
}

// apart: does none of some pieces of memory lie in another one?
func apart(l []cell) bool {
	was := states(l)
	for i, c := range l {
		c.turn()
		now := states(l)
		now[i] = was[i]
		c.turn()
		if !slices.Equal(now, was) {
			return false
		}
	}
	return true
}

// roomy is a text with spare room that is written full.
func roomy(b []byte) []byte {
	return append(slices.Clone(b), bytes.Repeat([]byte{0x77}, 5)...)[:len(b)]
}

func roomyTexts(l [][]byte) [][]byte {
	var out [][]byte
	for _, text := range l {
		out = append(out, roomy(text))
	}
	return append(out, texts("spare", "room", "of", "texts")...)[:len(l)]
}

func roomyHead(h api.Head) api.Head {
	h.High = roomy(h.High)
	return h
}

func roomyBody(b api.Body) api.Body {
	kids := append(slices.Clone(b.Kids), 71, 72, 73, 74)[:len(b.Kids)]
	return api.Body{Keys: roomyTexts(b.Keys), Values: roomyTexts(b.Values), Kids: kids}
}
