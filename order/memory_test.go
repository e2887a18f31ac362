package order_test

import (
	"fmt"
	"math"
	"slices"
	"testing"

	"coppice/api"
	"coppice/order"
)

// room is a text whose spare room has something in it.
func room(s string) []byte { return []byte(s + "and more")[:len(s)] }

// roomy is a history whose lists all have spare room, in which something stands.
func roomy() api.History {
	e := func(key, value string) api.Entry { return api.Entry{Key: room(key), Value: room(value)} }
	call := func(client int, kind api.OpKind, key string, value string, point int) api.Call {
		return api.Call{Client: client, First: 0, Last: 99, Point: point, Done: true, Op: api.Op{
			Kind: kind, Key: room(key), Value: room(value), Hi: room("h"), Takes: []int{1, 2, 3}[:2],
		}, Value: room(""), Entries: []api.Entry{e("x", "y"), e("w", "v")}[:1]}
	}
	h := api.History{
		Start: []api.Entry{e("c", "1"), e("a", "1"), e("c", "2"), e("z", "9")}[:3],
		Calls: []api.Call{
			call(0, api.OpPut, "b", "3", 9), call(1, api.OpDelete, "a", "4", 5), call(2, api.OpGet, "c", "5", 2), call(3, api.OpScan, "c", "6", -1),
			call(4, api.OpPut, "q", "7", 8),
		}[:4],
		Held: []int{1, 2, 3}[:0],
		End:  []api.Entry{e("b", "3"), e("c", "2"), e("y", "8")}[:2],
	}
	h.Calls[1].There = true
	h.Calls[2].There, h.Calls[2].Value = true, room("2")
	return h
}

// wide is a list with its spare room.
func wide[T any](l []T) []T { return l[:cap(l)] }

// cells are all that a history's owner can change, in words, spare room too.
func cells(h api.History) string {
	out := fmt.Sprintln(wide(h.Held), len(h.Start), len(h.Calls), len(h.End), wideEntries(h.Start), wideEntries(h.End))
	for _, c := range wide(h.Calls) {
		out += fmt.Sprintln(toldCall(c), wide(c.Op.Takes), string(wide(c.Op.Key)), string(wide(c.Op.Value)), string(wide(c.Op.Hi)), string(wide(c.Value)), wideEntries(c.Entries))
	}
	return out
}

func wideEntries(l []api.Entry) string {
	out := ""
	for _, e := range wide(l) {
		out += string(wide(e.Key)) + "=" + string(wide(e.Value)) + " "
	}
	return out
}

func spoilText(text []byte) {
	text = wide(text)
	for i := range text {
		text[i] = '#'
	}
}

func spoilEntries(l []api.Entry) {
	l = wide(l)
	for i := range l {
		spoilText(l[i].Key)
		spoilText(l[i].Value)
		l[i] = entry("#", "#")
	}
}

// spoil changes all that its owner can of a history.
func spoil(h api.History) {
	spoilEntries(h.Start)
	spoilEntries(h.End)
	calls := wide(h.Calls)
	for i := range calls {
		spoilText(calls[i].Op.Key)
		spoilText(calls[i].Op.Value)
		spoilText(calls[i].Value)
		calls[i] = api.Call{Client: 7, Op: otherOp(9), Point: 3}
	}
}

// P3: what was handed in is not turned, nor its spare room.
func TestHandedIn(t *testing.T) {
	h := roomy()
	was := cells(h)
	look := []api.Entry{{Key: room("c"), Value: room("2")}, entry("#", "#")}[:1]
	lo, hi := room("c"), room("d")
	bounds := wideEntries(look) + string(wide(lo)) + string(wide(hi))
	for range 2 {
		if l := order.Line(h.Calls); !slices.Equal(l, []int{2, 1, 0}) {
			t.Errorf("Line: %v", l)
		}
		check(t, h, -1, api.OK)
		after(t, h, 6, "c=2")
		after(t, h, math.MaxInt, "b=3 c=2")
		if !order.Seen(h, look, lo, hi, 0, 9) || order.Seen(h, look, lo, nil, 9, 0) || order.Seen(h, look, hi, nil, 0, 9) {
			t.Error("Seen")
		}
	}
	if got := cells(h); got != was {
		t.Errorf("%s\nwas\n%s", got, was)
	}
	if got := wideEntries(look) + string(wide(lo)) + string(wide(hi)); got != bounds {
		t.Errorf("%q was %q", got, bounds)
	}
}

// P3: what comes out is new memory: whoever changes what was handed in does not change it, and the other way about.
func TestNewMemory(t *testing.T) {
	h := roomy()
	l, line := order.After(h.Start, h.Calls, 99), order.Line(h.Calls)
	spoil(h)
	if list(l) != "b=3 c=2" || !slices.Equal(line, []int{2, 1, 0}) {
		t.Errorf("%s, %v", list(l), line)
	}
	h = roomy()
	was := cells(h)
	for now := range 12 {
		l, again := order.After(h.Start, h.Calls, now), order.After(h.Start, h.Calls, now)
		want := list(again)
		spoilEntries(l)
		for i := range wide(order.Line(h.Calls)) {
			wide(order.Line(h.Calls))[i] = 77
		}
		if list(again) != want || list(order.After(h.Start, h.Calls, now)) != want || cells(h) != was {
			t.Fatalf("After %d: %s, not %s", now, list(again), want)
		}
	}
	if line := order.Line(h.Calls); !slices.Equal(line, []int{2, 1, 0}) {
		t.Errorf("Line: %v", line)
	}
	check(t, h, -1, api.OK)
}

// P3: no two lists of one answer share memory.
func TestListsApart(t *testing.T) {
	h := roomy()
	// One list of bytes stands in many places of what is handed in.
	same := room("k")
	h.Start = []api.Entry{{Key: same, Value: same}, {Key: room("a"), Value: same}}
	h.Calls = []api.Call{{Op: api.Op{Kind: api.OpPut, Key: room("b"), Value: same}, Point: 1}, {Op: api.Op{Kind: api.OpPut, Key: room("c"), Value: same}, Point: 2}}
	want := order.After(h.Start, h.Calls, 9)
	if list(want) != "a=k b=k c=k k=k" {
		t.Fatalf("After: %s", list(want))
	}
	for i := range want {
		for part := range 2 {
			l := order.After(h.Start, h.Calls, 9)
			spoilText([][]byte{l[i].Key, l[i].Value}[part])
			for j, e := range l {
				if !(j == i && part == 0) && string(e.Key) != string(want[j].Key) || !(j == i && part == 1) && string(e.Value) != "k" {
					t.Fatalf("part %d of %d is part of %d: %s", part, i, j, list(l))
				}
			}
		}
	}
}

// P3: what a call answers hangs on its arguments alone, not on how a map is gone through.
func TestSameAgain(t *testing.T) {
	d := dice(5)
	var h api.History
	for i := range 300 {
		h.Start = append(h.Start, entry(fmt.Sprint("k", d.below(9999)), fmt.Sprint(i)))
		h.Calls = append(h.Calls, at(d.below(500)-20, putOp(fmt.Sprint("k", d.below(9999)), "x")))
	}
	want, line := list(order.After(h.Start, h.Calls, 300)), order.Line(h.Calls)
	l := order.After(h.Start, h.Calls, 300)
	for range 20 {
		if list(order.After(h.Start, h.Calls, 300)) != want || !slices.Equal(order.Line(h.Calls), line) || !order.Seen(h, l, nil, nil, 300, 300) {
			t.Fatal("another answer")
		}
	}
	if want != list(wordsAfter(h.Start, h.Calls, 300)) {
		t.Errorf("%s", want)
	}
}
