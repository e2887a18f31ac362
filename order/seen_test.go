package order_test

import (
	"math"
	"testing"

	"coppice/api"
	"coppice/order"
)

func seen(t *testing.T, h api.History, l string, lo, hi string, from, to int, want bool) {
	t.Helper()
	if got := order.Seen(h, entries(l), []byte(lo), []byte(hi), from, to); got != want {
		t.Errorf("Seen %s from %q to %q, %d to %d: %t: %s", l, lo, hi, from, to, got, told(h))
	}
}

// What a look may say of one key whose value changes.
func TestSeenMoments(t *testing.T) {
	// k has 1 up to moment 4, 2 from 5 to 8, nothing at 9 to 12, 3 from 13 on.
	h := history("k=1", "", at(4, putOp("k", "2")), at(8, delOp("k")), at(12, putOp("k", "3")))
	for _, x := range []struct {
		l        string
		from, to int
		want     bool
	}{
		{"k=1", 0, 4, true}, {"k=1", 4, 4, true}, {"k=1", 4, 20, true}, {"k=1", 5, 20, false}, {"k=1", 5, 5, false}, {"k=1", -9, -5, true},
		{"k=2", 0, 4, false}, {"k=2", 0, 5, true}, {"k=2", 5, 5, true}, {"k=2", 8, 8, true}, {"k=2", 8, 20, true}, {"k=2", 9, 20, false}, {"k=2", 0, 20, true}, {"k=2", 6, 7, true},
		{"", 0, 8, false}, {"", 0, 9, true}, {"", 12, 20, true}, {"", 13, 20, false}, {"", 0, 20, true}, {"", 10, 11, true},
		{"k=3", 0, 12, false}, {"k=3", 0, 13, true}, {"k=3", 13, 13, true}, {"k=3", 90, 99, true},
		{"k=4", 0, 99, false}, {"k", 0, 99, false}, {"k=11", 0, 99, false},
		{"k=1", math.MinInt, math.MinInt, true}, {"k=2", math.MinInt, math.MinInt, false}, {"", math.MinInt, -1, false},
		{"k=3", math.MaxInt, math.MaxInt, true}, {"k=1", math.MaxInt, math.MaxInt, false}, {"k=2", math.MinInt, math.MaxInt, true},
		// To below from.
		{"k=1", 3, 2, false}, {"k=1", 0, -1, false}, {"k=3", math.MaxInt, math.MinInt, false},
	} {
		seen(t, h, x.l, "", "", x.from, x.to, x.want)
		seen(t, h, x.l, "k", "l", x.from, x.to, x.want)
	}
	// To below from is never seen, though there is nothing to see.
	seen(t, history("", ""), "", "", "", 1, 0, false)
	seen(t, history("", ""), "", "", "", 1, 1, true)
	seen(t, history("", ""), "", "b", "a", 1, 0, false)
}

// At the last number that a moment can be.
func TestSeenLastMoment(t *testing.T) {
	h := history("", "", at(math.MaxInt, putOp("k", "1")))
	seen(t, h, "k=1", "", "", 0, math.MaxInt, false)
	seen(t, h, "", "", "", math.MaxInt, math.MaxInt, true)
	h = history("", "", at(math.MaxInt-1, putOp("k", "1")))
	seen(t, h, "k=1", "", "", 0, math.MaxInt, true)
	seen(t, h, "k=1", "", "", 0, math.MaxInt-1, false)
	seen(t, h, "", "", "", math.MaxInt, math.MaxInt, false)
}

// Each key is looked at by itself: one as it was early, another as it was late.
func TestSeenKeyByKey(t *testing.T) {
	h := history("a=1 b=1", "", at(3, putOp("a", "2")), at(5, putOp("b", "2")))
	seen(t, h, "a=1 b=2", "", "", 0, 9, true) // at no moment were both so
	seen(t, h, "a=2 b=1", "", "", 0, 9, true)
	seen(t, h, "a=1 b=1", "", "", 0, 9, true)
	seen(t, h, "a=1 b=2", "", "", 4, 9, false)
	seen(t, h, "a=2 b=2", "", "", 0, 5, false)
	seen(t, h, "a=2 b=2", "", "", 0, 6, true)
	seen(t, h, "a=2", "", "", 0, 9, false)
	seen(t, h, "b=2", "", "", 0, 9, false)
	seen(t, h, "a=2 b=2 c=3", "", "", 0, 9, false)
}

// Calls of one point leave no moment between them.
func TestSeenOnePoint(t *testing.T) {
	h := history("k=1", "", at(4, putOp("k", "2")), at(4, putOp("k", "3")))
	seen(t, h, "k=1", "", "", 0, 4, true)
	seen(t, h, "k=2", "", "", 0, 99, false)
	seen(t, h, "k=3", "", "", 0, 4, false)
	seen(t, h, "k=3", "", "", 0, 5, true)
	h = history("", "", at(0, putOp("k", "2")), at(0, delOp("k")))
	seen(t, h, "k=2", "", "", -5, 99, false)
	seen(t, h, "", "", "", 1, 99, true)
}

// Points stand in Line's order, wherever the calls stand.
func TestSeenInLine(t *testing.T) {
	h := history("", "", at(8, putOp("k", "2")), at(4, putOp("k", "1")))
	seen(t, h, "k=1", "", "", 0, 4, false)
	seen(t, h, "k=1", "", "", 5, 5, true)
	seen(t, h, "k=1", "", "", 9, 9, false)
	seen(t, h, "k=2", "", "", 9, 9, true)
}

func TestSeenRange(t *testing.T) {
	h := history("a=1 b=2 c=3 d=4", "")
	for _, x := range []struct {
		l, lo, hi string
		want      bool
	}{
		{"a=1 b=2 c=3 d=4", "", "", true},
		{"b=2 c=3", "b", "d", true},
		{"b=2 c=3 d=4", "b", "", true},
		{"a=1 b=2", "", "c", true},
		// Keys at lo, below lo, at hi, above hi.
		{"a=1 b=2 c=3", "b", "d", false},
		{"b=2 c=3 d=4", "b", "d", false},
		{"b=2 c=3 d=4", "b", "cc", false},
		{"c=3", "b", "d", false},
		{"b=2", "b", "d", false},
		{"b=2", "b", "c", true},
		{"b=2 c=3", "aa", "cc", true},
		// A range of nothing.
		{"", "b", "b", true},
		{"", "c", "b", true},
		{"b=2", "b", "b", false},
		{"b=2", "c", "b", false},
		{"", "e", "", true},
		{"", "", "a", true},
		{"", "", "", false},
		// Keys that fall, and a key that stands twice.
		{"b=2 a=1 c=3 d=4", "", "", false},
		{"a=1 b=2 d=4 c=3", "", "", false},
		{"a=1 b=2 b=2 c=3 d=4", "", "", false},
		{"a=1 a=9 b=2 c=3 d=4", "", "", false},
		{"c=3 b=2", "b", "d", false},
		{"b=2 b=2", "b", "c", false},
		// A key of l that nobody wrote.
		{"a=1 b=2 bb=2 c=3 d=4", "", "", false},
		{"bb=2", "bb", "c", false},
		{"bb", "bb", "c", false},
	} {
		seen(t, h, x.l, x.lo, x.hi, 0, 0, x.want)
	}
	// Nil or empty, a bound is none.
	if !order.Seen(h, entries("a=1 b=2 c=3 d=4"), nil, nil, 0, 0) || !order.Seen(h, entries("a=1 b=2 c=3 d=4"), []byte{}, []byte{}, 0, 0) {
		t.Error("bounds of nothing")
	}
}

// Keys that l says nothing of.
func TestSeenNothingOf(t *testing.T) {
	// It stands in Start alone.
	seen(t, history("k=1", ""), "", "", "", 0, 9, false)
	seen(t, history("k=1", ""), "", "l", "", 0, 9, true)
	// It stands in writes alone that do not count.
	for _, c := range []api.Call{
		at(-1, putOp("k", "1")), at(3, delOp("k")), failed(at(3, putOp("k", "1")), api.ErrFull), failed(at(3, putOp("k", "1")), api.ErrLong),
		at(3, putOp("k", long(257))), at(3, getOp("k")), at(3, otherOp(0)), at(3, putOp("", "1")), at(3, putOp(long(65), "1")),
	} {
		seen(t, history("", "", c), "", "", "", 0, 9, true)
		seen(t, history("", "", c), "k=1", "", "", 0, 9, false)
		seen(t, history("k=1", "", c), "", "", "", 0, 9, c.Op.Kind == api.OpDelete)
		seen(t, history("k=1", "", c), "k=1", "", "", 0, 9, true)
		seen(t, history("k=1", "", c), "k=1", "", "", 4, 9, c.Op.Kind != api.OpDelete)
	}
	// It stands in a write alone that counts: at from it was not there yet.
	h := history("", "", at(3, putOp("k", "1")))
	seen(t, h, "", "", "", 0, 9, true)
	seen(t, h, "", "", "", 3, 9, true)
	seen(t, h, "", "", "", 4, 9, false)
	// Keys that may not be are looked at like others.
	h = api.History{Start: []api.Entry{entry("", "1"), entry(long(65), "2")}}
	if order.Seen(h, nil, nil, nil, 0, 0) || !order.Seen(h, h.Start, nil, nil, 0, 0) || order.Seen(h, h.Start[:1], nil, nil, 0, 0) || !order.Seen(h, h.Start[1:], []byte("a"), nil, 0, 0) {
		t.Error("keys that may not be")
	}
	// Start may tell a key twice, and its keys may fall.
	seen(t, history("k=1 a=1 k=2", ""), "a=1 k=2", "", "", 0, 0, true)
	seen(t, history("k=1 a=1 k=2", ""), "a=1 k=1", "", "", 0, 0, false)
}

// No value is not nothing.
func TestSeenNoValue(t *testing.T) {
	h := history("k", "", at(3, delOp("k")))
	seen(t, h, "k", "", "", 0, 3, true)
	seen(t, h, "", "", "", 0, 3, false)
	seen(t, h, "k", "", "", 4, 9, false)
	seen(t, h, "", "", "", 4, 9, true)
	if !order.Seen(h, []api.Entry{{Key: []byte("k")}}, nil, nil, 0, 0) {
		t.Error("a nil value")
	}
}
