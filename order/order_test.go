package order_test

import (
	"math"
	"slices"
	"testing"

	"coppice/api"
	"coppice/order"
)

// example is the history of the chapter's table.
func example() api.History {
	return history("a=1", "a=2",
		there(done(0, putOp("a", "2"), 0, 9, 7), ""),
		there(done(1, getOp("a"), 3, 8, 8), "2"))
}

// check holds against Check's answer.
func check(t *testing.T, h api.History, place int, err api.Errno) {
	t.Helper()
	if i, e := order.Check(h); i != place || e != err {
		t.Errorf("%d %d, not %d %d: %s", i, e, place, err, told(h))
	}
}

// The chapter's table of examples.
func TestExamples(t *testing.T) {
	h := example()
	if l := order.Line(h.Calls); !slices.Equal(l, []int{0, 1}) {
		t.Errorf("Line: %v", l)
	}
	check(t, h, -1, api.OK)
	other := example()
	other.Calls[1].Value = []byte("1")
	check(t, other, 1, api.ErrOrderAnswer)
	other = example()
	other.Calls[1].Point = 9
	check(t, other, 1, api.ErrOrderPoint)
	after(t, h, 7, "a=1")
	after(t, h, 8, "a=2")
	seen(t, h, "a=1", "", "", 0, 7, true)
	seen(t, h, "a=1", "", "", 8, 9, false)
}

func TestLine(t *testing.T) {
	for _, x := range []struct{ points, want []int }{
		{nil, nil},
		{[]int{-1}, nil},
		{[]int{-1, math.MinInt, -2}, nil},
		{[]int{0}, []int{0}},
		{[]int{math.MaxInt, 0, -1, 1}, []int{1, 3, 0}},
		{[]int{3, 2, 1}, []int{2, 1, 0}},
		{[]int{5, 5, 5}, []int{0, 1, 2}},
		{[]int{5, 0, 5, -1, 0, 5}, []int{1, 4, 0, 2, 5}},
		{[]int{math.MaxInt, math.MinInt, math.MaxInt}, []int{0, 2}},
		{[]int{1 << 32, 1, 1 << 40, 2}, []int{1, 3, 0, 2}},
	} {
		var l []api.Call
		for _, point := range x.points {
			l = append(l, at(point, putOp("a", "1")))
		}
		if got := order.Line(l); !slices.Equal(got, x.want) {
			t.Errorf("%v: %v", x.points, got)
		}
		// Nothing but the point is asked.
		for i := range l {
			l[i] = api.Call{Op: otherOp(9 - i), Point: l[i].Point, First: 9, Last: -9, Err: 77, Done: i%2 > 0}
		}
		if got := order.Line(l); !slices.Equal(got, x.want) {
			t.Errorf("%v, of other kinds: %v", x.points, got)
		}
	}
}

// Calls of one point stay in the order of their places, however many there are.
func TestLineStable(t *testing.T) {
	var l []api.Call
	for i := range 3000 {
		l = append(l, at(i%7-1, getOp("a")))
	}
	got := order.Line(l)
	if len(got) != 3000-429 {
		t.Errorf("%d places", len(got))
	}
	for i := 1; i < len(got); i++ {
		if a, b := l[got[i-1]].Point, l[got[i]].Point; a > b || a == b && got[i-1] > got[i] {
			t.Fatalf("%d ahead of %d", got[i-1], got[i])
		}
	}
}

func after(t *testing.T, h api.History, now int, want string) {
	t.Helper()
	if got := list(order.After(h.Start, h.Calls, now)); got != want {
		t.Errorf("After %d: %s, not %s: %s", now, got, want, told(h))
	}
}

func TestAfter(t *testing.T) {
	empty := history("", "")
	after(t, empty, 0, "")
	after(t, empty, math.MaxInt, "")
	h := history("b=1 d=2", "", at(3, putOp("c", "3")), at(5, delOp("b")), at(7, putOp("d", "4")))
	for now, want := range map[int]string{
		math.MinInt: "b=1 d=2", -1: "b=1 d=2", 0: "b=1 d=2", 3: "b=1 d=2",
		4: "b=1 c=3 d=2", 5: "b=1 c=3 d=2", 6: "c=3 d=2", 7: "c=3 d=2", 8: "c=3 d=4", math.MaxInt: "c=3 d=4",
	} {
		after(t, h, now, want)
	}
	// Start's keys may fall and stand twice; calls stand in any order.
	after(t, history("d=1 b=2 d=3 a=4 b=5", "", at(1, delOp("a"))), 0, "a=4 b=5 d=3")
	after(t, history("d=1 b=2 d=3 a=4 b=5", "", at(1, delOp("a"))), 2, "b=5 d=3")
	after(t, history("", "", at(9, putOp("a", "9")), at(2, putOp("a", "2")), at(5, delOp("a"))), 3, "a=2")
	after(t, history("", "", at(9, putOp("a", "9")), at(2, putOp("a", "2")), at(5, delOp("a"))), 6, "")
	after(t, history("", "", at(9, putOp("a", "9")), at(2, putOp("a", "2")), at(5, delOp("a"))), 10, "a=9")
	// Calls of one point: the later place is the later call.
	after(t, history("", "", at(4, putOp("a", "1")), at(4, putOp("a", "2"))), 5, "a=2")
	after(t, history("", "", at(4, putOp("a", "1")), at(4, delOp("a"))), 5, "")
	after(t, history("", "", at(4, delOp("a")), at(4, putOp("a", "1"))), 5, "a=1")
	// A point behind all that a number can be ahead of.
	after(t, history("", "", at(math.MaxInt, putOp("a", "1"))), math.MaxInt, "")
	after(t, history("", "", at(math.MaxInt-1, putOp("a", "1"))), math.MaxInt, "a=1")
	// Byte by byte; one that begins another one comes ahead of it. Keys of Start may be any.
	after(t, api.History{Start: []api.Entry{entry("\xff", ""), entry("b", "2"), entry(long(65), "3"), entry("ab", ""), entry("", "1"), entry("a", ""), entry("a\x00", "")}}, 0,
		`=1 a= a\x00= ab= b=2 `+long(65)+`=3 \xff=`)
}

// Which calls count.
func TestCounts(t *testing.T) {
	for _, x := range []struct {
		what string
		call api.Call
		want string
	}{
		{"put", at(0, putOp("b", "2")), "a=1 b=2"},
		{"put, not done", begun(0, putOp("b", "2"), 3, 1, 0), "a=1 b=2"},
		{"put without a value", at(0, putOp("b", "")), "a=1 b="},
		{"put over another one", at(0, putOp("a", "2")), "a=2"},
		{"put of a nil value", at(0, api.Op{Kind: api.OpPut, Key: []byte("a")}), "a="},
		{"key of one byte that is 0", at(0, putOp("\x00", "2")), `\x00=2 a=1`},
		{"longest key", at(0, putOp(long(64), "2")), "a=1 " + long(64) + "=2"},
		{"longest value", at(0, putOp("b", long(256))), "a=1 b=" + long(256)},
		{"no key", at(0, putOp("", "2")), "a=1"},
		{"key too long", at(0, putOp(long(65), "2")), "a=1"},
		{"value too long", at(0, putOp("b", long(257))), "a=1"},
		{"put that was told it is too long", failed(at(0, putOp("b", "2")), api.ErrLong), "a=1"},
		{"put that was told it is full", failed(at(0, putOp("b", "2")), api.ErrFull), "a=1"},
		{"put with another error", failed(at(0, putOp("b", "2")), -5), "a=1"},
		{"put of no point", at(-1, putOp("b", "2")), "a=1"},
		{"put of a point below all", at(math.MinInt, putOp("b", "2")), "a=1"},
		{"deletion", at(0, delOp("a")), ""},
		{"deletion with a value too long", at(0, api.Op{Kind: api.OpDelete, Key: []byte("a"), Value: []byte(long(257))}), ""},
		{"deletion of what is not there", at(0, delOp("b")), "a=1"},
		{"deletion of no key", at(0, delOp("")), "a=1"},
		{"deletion with an error", failed(at(0, delOp("a")), api.ErrFull), "a=1"},
		{"deletion of no point", at(-1, delOp("a")), "a=1"},
		{"get", at(0, getOp("a")), "a=1"},
		{"scan", at(0, scanOp("a", "", 9)), "a=1"},
		{"export", at(0, exportOp(0)), "a=1"},
		{"none", at(0, otherOp(0)), "a=1"},
		{"none of 6", at(0, otherOp(6)), "a=1"},
	} {
		if got := list(order.After(entries("a=1"), []api.Call{x.call}, 1)); got != x.want {
			t.Errorf("%s: %s, not %s", x.what, got, x.want)
		}
		if got := list(order.After(entries("a=1"), []api.Call{x.call}, x.call.Point)); got != "a=1" {
			t.Errorf("%s, at its point: %s", x.what, got)
		}
	}
	// Keys that may not be are of Start's map, and no deletion takes them away.
	h := api.History{Start: []api.Entry{entry("", "1"), entry(long(65), "2")}, Calls: []api.Call{at(0, delOp("")), at(1, delOp(long(65)))}}
	after(t, h, 9, "=1 "+long(65)+"=2")
}
