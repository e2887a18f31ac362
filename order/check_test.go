package order_test

import (
	"math"
	"slices"
	"testing"

	"coppice/api"
	"coppice/order"
)

// The six reasons of ErrOrderPoint, each by itself at the last call; and what stands just on the right side of them.
func TestPoints(t *testing.T) {
	get := getOp("a")
	for _, x := range []struct {
		what  string
		wrong bool
		calls []api.Call
	}{
		{"nothing", false, nil},
		{"get", false, []api.Call{done(0, get, 0, 0, 0)}},
		{"First below 0", true, []api.Call{done(0, get, -1, 5, 3)}},
		{"First below 0, not done", true, []api.Call{begun(0, get, -1, 5, -1)}},
		{"First below all, another kind", true, []api.Call{done(0, otherOp(0), math.MinInt, 5, -1)}},
		{"Last one below First", true, []api.Call{done(0, otherOp(0), 5, 4, -1)}},
		{"Last one below First, of a scan", true, []api.Call{done(0, scanOp("", "", 9), 5, 4, -1)}},
		{"Last at First", false, []api.Call{done(0, otherOp(0), 5, 5, -1)}},
		{"Last below First, not done", false, []api.Call{begun(0, otherOp(0), 5, 4, -1), begun(1, get, 5, -9, -1)}},
		{"Point at First", false, []api.Call{done(0, get, 5, 9, 5)}},
		{"Point at Last", false, []api.Call{done(0, get, 5, 9, 9)}},
		{"Point one below First", true, []api.Call{done(0, get, 5, 9, 4)}},
		{"Point one above Last", true, []api.Call{done(0, get, 5, 9, 10)}},
		{"get of no Point", true, []api.Call{done(0, get, 5, 9, -1)}},
		{"put of no Point", true, []api.Call{done(0, putOp("a", "1"), 5, 9, -1)}},
		{"deletion of no Point", true, []api.Call{done(0, delOp("a"), 5, 9, -1)}},
		{"put one above Last", true, []api.Call{done(0, putOp("a", "1"), 5, 9, 10)}},
		{"deletion one above Last", true, []api.Call{done(0, delOp("a"), 5, 9, 10)}},
		{"too long, of no Point", true, []api.Call{failed(done(0, putOp("", "1"), 5, 9, -1), api.ErrLong)}},
		{"not done, of no Point", false, []api.Call{begun(0, get, 5, 9, -1), begun(1, putOp("a", "1"), 0, 9, -1), begun(2, delOp("a"), 0, 9, -1)}},
		{"not done, Point at First", false, []api.Call{begun(0, get, 5, 9, 5)}},
		{"not done, Point one above Last", false, []api.Call{begun(0, delOp("a"), 5, 9, 10)}},
		{"not done, Point one below First", true, []api.Call{begun(0, get, 5, 9, 4)}},
		{"put not done, Point one below First", true, []api.Call{begun(0, putOp("a", "1"), 5, 9, 4)}},
		{"deletion not done, Point one below First", true, []api.Call{begun(0, delOp("a"), 5, 9, 4)}},
		{"not done, Point -2", true, []api.Call{begun(0, get, 5, 9, -2)}},
		{"another kind of a Point", true, []api.Call{done(0, otherOp(0), 5, 9, 7)}},
		{"another kind of Point -2", true, []api.Call{done(0, otherOp(-1), 5, 9, -2)}},
		{"scan of a Point", true, []api.Call{done(0, scanOp("", "", 9), 5, 9, 7)}},
		{"export of a Point", true, []api.Call{done(0, exportOp(0), 5, 9, 5)}},
		{"scan of a Point, not done", true, []api.Call{begun(0, scanOp("", "", 9), 5, 9, 7)}},
		{"scan, export, none, of no Point", false, []api.Call{done(0, scanOp("", "", 9), 0, 9, -1), done(1, exportOp(0), 0, 9, -1), done(2, otherOp(6), 9, 9, -1), begun(3, otherOp(4), 0, 9, -1)}},
		{"two of one Point", true, []api.Call{done(0, get, 0, 9, 7), done(1, get, 0, 9, 7)}},
		{"two of Point 0", true, []api.Call{done(0, get, 0, 0, 0), done(1, delOp("a"), 0, 9, 0)}},
		{"two of one Point, unlike kinds", true, []api.Call{done(0, putOp("b", "1"), 0, 9, 7), done(1, getOp("c"), 0, 9, 3), begun(2, delOp("d"), 0, 9, 7)}},
		{"two of no Point", false, []api.Call{begun(0, get, 0, 9, -1), begun(1, get, 0, 9, -1), done(2, otherOp(0), 0, 0, -1)}},
		{"behind one that is not done", true, []api.Call{begun(0, get, 0, 3, -1), done(0, get, 5, 9, 7)}},
		{"not done, behind one that is not done", true, []api.Call{begun(0, get, 0, 3, -1), begun(0, get, 5, 9, -1)}},
		{"behind another client's that is not done", false, []api.Call{begun(0, get, 0, 3, -1), done(1, get, 5, 9, 7)}},
		{"behind one that ends at First", false, []api.Call{done(0, get, 0, 5, 4), done(0, get, 5, 9, 7)}},
		{"behind one that ends one later", true, []api.Call{done(0, get, 0, 6, 4), done(0, get, 5, 9, 7)}},
		{"behind one that ends at First, not done", false, []api.Call{done(0, get, 0, 5, 4), begun(0, get, 5, 0, -1)}},
		{"behind another client's that ends later", false, []api.Call{done(0, get, 0, 6, 4), done(1, get, 5, 9, 7)}},
		{"behind one of another kind that ends later", true, []api.Call{done(0, otherOp(0), 3, 6, -1), done(1, get, 0, 9, 7), done(0, scanOp("", "", 9), 5, 9, -1)}},
		{"clients by any numbers", false, []api.Call{done(-3, get, 0, 9, 1), done(1<<40, get, 0, 9, 2), done(math.MinInt, get, 0, 9, 3), done(math.MaxInt, get, 0, 9, 4)}},
		{"a client by any number", true, []api.Call{done(-3, get, 0, 9, 1), done(3, get, 0, 9, 2), done(-3, get, 0, 9, 3)}},
		{"moments as great as they can be", false, []api.Call{done(0, get, math.MaxInt, math.MaxInt, math.MaxInt)}},
	} {
		h := api.History{Calls: x.calls, Held: []int{1}}
		place, err := order.Check(h)
		if x.wrong && (place != len(x.calls)-1 || err != api.ErrOrderPoint) || !x.wrong && (place != -1 || err != api.OK) {
			t.Errorf("%s: %d %d: %s", x.what, place, err, told(h))
		}
	}
	// It is told at the first call that is wrong, whatever comes behind it.
	wrong := done(0, otherOp(0), 3, 4, -1)
	check(t, history("", "", done(0, otherOp(0), 0, 9, -1), wrong, done(0, otherOp(0), 10, 10, -1)), 1, api.ErrOrderPoint)
	check(t, history("", "", done(0, otherOp(0), 0, 9, -1), wrong, wrong), 1, api.ErrOrderPoint)
}

// ErrOrderPoint is told at its first call, ahead of every ErrOrderAnswer.
func TestPointsFirst(t *testing.T) {
	lie := there(done(0, getOp("a"), 0, 3, 2), "1")
	late := done(1, getOp("a"), 0, 3, 4)
	h := history("", "z=1", lie, late, late, begun(2, getOp("a"), -1, 0, -1))
	check(t, h, 1, api.ErrOrderPoint)
	h.Calls[1].Point = 3
	check(t, h, 2, api.ErrOrderPoint)
	h.Calls = slices.Delete(h.Calls, 2, 3)
	check(t, h, 2, api.ErrOrderPoint)
	h.Calls = h.Calls[:2]
	check(t, h, 0, api.ErrOrderAnswer)
	h.Calls[0] = done(0, getOp("a"), 0, 3, 2)
	check(t, h, 2, api.ErrOrderAnswer)
	h.End = nil
	check(t, h, -1, api.OK)
}

// Of answers it is the first in Line's order that is told, by its place in the list.
func TestAnswersInOrder(t *testing.T) {
	lie := func(client int, point int) api.Call { return there(done(client, getOp("a"), 0, 9, point), "1") }
	check(t, history("", "", lie(0, 7), lie(1, 3), lie(2, 5)), 1, api.ErrOrderAnswer)
	check(t, history("", "", lie(0, 7), done(1, getOp("a"), 0, 9, 3), lie(2, 5)), 2, api.ErrOrderAnswer)
	// A write stands ahead of what comes behind its point, not behind its place.
	check(t, history("", "a=1", there(done(0, getOp("a"), 0, 9, 5), "1"), done(1, putOp("a", "1"), 0, 9, 4)), -1, api.OK)
	check(t, history("", "a=1", there(done(0, getOp("a"), 0, 9, 5), "1"), done(1, putOp("a", "1"), 0, 9, 6)), 0, api.ErrOrderAnswer)
	check(t, history("", "a=1", done(0, getOp("a"), 0, 9, 5), done(1, putOp("a", "1"), 0, 9, 6)), -1, api.OK)
	// What is not done is not asked, and does what it does.
	check(t, history("a=1", "a=2", begun(0, putOp("a", "2"), 0, 9, 5), there(done(1, getOp("a"), 0, 9, 6), "2")), -1, api.OK)
	check(t, history("a=1", "", begun(0, delOp("a"), 0, 9, 5), done(1, getOp("a"), 0, 9, 6)), -1, api.OK)
	check(t, history("a=1", "a=1", there(begun(0, getOp("b"), 0, 9, 5), "7"), failed(begun(1, putOp("b", "1"), 0, 9, 6), 99)), -1, api.OK)
}

// answering is a call with an answer.
func answering(op api.Op, err api.Errno, is bool, value string) api.Call {
	c := failed(done(0, op, 0, 9, 5), err)
	c.There = is
	if value != "" {
		c.Value = []byte(value)
	}
	return c
}

// Every answer of a get, a put and a deletion, of keys that are there, that are not, that may not be: which of them are right is written out.
func TestAnswers(t *testing.T) {
	keys := []string{"", "a", "b", "\x00", long(64), long(65)}
	values := []string{"", "1", "2", long(256), long(257)}
	for _, start := range []string{"", "a=1", "a", "b=2 " + long(64) + "=1 \x00=1", long(65) + "=1"} {
		for _, key := range keys {
			was, is := find(entries(start), []byte(key))
			may := len(key) >= 1 && len(key) <= 64
			for _, err := range []api.Errno{api.OK, api.ErrLong, api.ErrFull, api.ErrArg, -1, api.ErrOrderAnswer} {
				for _, there := range []bool{false, true} {
					for _, value := range values {
						asked := func(op api.Op, may bool, right bool, full bool) {
							t.Helper()
							switch {
							case !may:
								right = err == api.ErrLong && !there && right
							case err == api.ErrFull:
								right = full && !there && !is
							default:
								right = err == api.OK && there == is && right
							}
							h := history(start, "", answering(op, err, there, value))
							h.Held = []int{1}
							want := map[bool]api.Errno{true: api.OK, false: api.ErrOrderAnswer}[right]
							if place, e := order.Check(h); e != want || place != map[bool]int{true: -1, false: 0}[right] {
								t.Fatalf("%d %d: %s", place, e, told(h))
							}
						}
						has := was
						if !may {
							has = ""
						}
						asked(getOp(key), may, value == has, false)
						asked(delOp(key), may, true, false)
						asked(api.Op{Kind: api.OpDelete, Key: []byte(key), Value: []byte(long(257))}, may, true, false)
						for _, put := range values {
							asked(putOp(key, put), may && len(put) <= 256, true, true)
						}
					}
				}
			}
		}
	}
}

// An answer's Value may be nil or empty; Entries are nobody's here.
func TestAnswersNil(t *testing.T) {
	for _, value := range [][]byte{nil, {}, make([]byte, 0, 9)} {
		for _, start := range []string{"", "a"} {
			c := done(0, getOp("a"), 0, 9, 5)
			c.There, c.Value, c.Entries = start == "a", value, entries("x=1")
			check(t, history(start, start, c), -1, api.OK)
			c.There = !c.There
			check(t, history(start, start, c), 0, api.ErrOrderAnswer)
		}
	}
	// Of a put or a deletion no Value is asked.
	c := there(done(0, putOp("a", "1"), 0, 9, 5), "anything")
	check(t, history("a=0", "a=1", c), -1, api.OK)
	c.Op.Kind = api.OpDelete
	check(t, history("a=0", "", c), -1, api.OK)
	// Nor a get's own Op.Value.
	c.Op, c.Value = api.Op{Kind: api.OpGet, Key: []byte("a"), Value: []byte(long(300))}, []byte("0")
	check(t, history("a=0", "a=0", c), -1, api.OK)
}

// Start may tell a key twice, and its keys may fall.
func TestStart(t *testing.T) {
	get := there(done(0, getOp("b"), 0, 9, 5), "2")
	check(t, history("c=1 b=1 a=1 b=2", "a=1 b=2 c=1", get), -1, api.OK)
	check(t, history("c=1 b=2 a=1 b=1", "a=1 b=1 c=1", get), 0, api.ErrOrderAnswer)
	check(t, history("c=1 b=1 a=1 b=2", "c=1 b=1 a=1 b=2", get), 1, api.ErrOrderAnswer)
	check(t, api.History{Start: []api.Entry{entry("", "1"), entry(long(65), "")}, End: []api.Entry{entry("", "1"), entry(long(65), "")}}, -1, api.OK)
}

func TestEnd(t *testing.T) {
	calls := []api.Call{done(0, putOp("c", "3"), 0, 9, 5), there(done(1, delOp("a"), 0, 9, 6), "")}
	for end, right := range map[string]bool{
		"b=2 c=3": true, "b=2": false, "c=3": false, "": false, "a=1 b=2 c=3": false, "b=2 c=3 d=4": false, "b=2 c=3 c=3": false,
		"b=2 c=4": false, "b=2 c=33": false, "b=2 c": false, "c=3 b=2": false, "b=2 d=3": false, "b=2 cc=3": false,
	} {
		h := history("a=1 b=2", end, calls...)
		if right {
			check(t, h, -1, api.OK)
		} else {
			check(t, h, 2, api.ErrOrderAnswer)
		}
		// While a latch is held End is not asked; what else History tells never is.
		for _, held := range [][]int{{1}, {0}, {-1, 7}} {
			h.Held, h.Steps, h.Done = held, len(held), len(held) > 1
			check(t, h, -1, api.OK)
		}
		h.Held, h.Steps, h.Done = []int{}, -9, true
		if place, err := order.Check(h); (err == api.OK) != right || (place == -1) != right {
			t.Errorf("%s: %d %d", end, place, err)
		}
	}
	check(t, api.History{}, -1, api.OK)
	check(t, history("", "a=1"), 0, api.ErrOrderAnswer)
	check(t, history("a=1", ""), 0, api.ErrOrderAnswer)
	check(t, history("a=1", "a=1"), -1, api.OK)
	check(t, api.History{Start: entries("a"), End: []api.Entry{{Key: []byte("a")}}}, -1, api.OK)
}

// Number and Steps are nobody's: a history of any is as right.
func TestNotAsked(t *testing.T) {
	h := example()
	h.Calls[0].Number, h.Calls[1].Number, h.Steps = -7, 99, -1
	check(t, h, -1, api.OK)
}

// Histories of as many calls as there may be: they end soon.
func TestManyCalls(t *testing.T) {
	h := api.History{}
	for i := range 60000 {
		h.Calls = append(h.Calls, done(i%16, putOp(string(rune('a'+i%26)), "1"), i, i, i))
		h.Calls[i].There = i >= 26
	}
	h.End = order.After(nil, h.Calls, len(h.Calls))
	check(t, h, -1, api.OK)
	h.Calls[59999].There = false
	check(t, h, 59999, api.ErrOrderAnswer)
	h.Calls[59999].Point = 0
	check(t, h, 59999, api.ErrOrderPoint)
}
