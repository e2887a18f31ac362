package order_test

import (
	"cmp"
	"slices"
	"testing"

	"coppice/api"
	"coppice/order"
)

// This file tells the chapter a second time, sentence by sentence, by lists that are gone through again and again.

func wordsLine(l []api.Call) []int {
	var out []int
	for range l {
		best := -1
		for place, c := range l {
			if c.Point >= 0 && !slices.Contains(out, place) && (best < 0 || c.Point < l[best].Point) {
				best = place
			}
		}
		if best >= 0 {
			out = append(out, best)
		}
	}
	return out
}

func wordsWrite(c api.Call) bool { return c.Op.Kind == api.OpPut || c.Op.Kind == api.OpDelete }

func wordsCounts(c api.Call) bool {
	key := len(c.Op.Key) >= 1 && len(c.Op.Key) <= 64
	value := c.Op.Kind != api.OpPut || len(c.Op.Value) <= 256
	return c.Point >= 0 && wordsWrite(c) && c.Err == api.OK && key && value
}

// without is a list without a key.
func without(l []api.Entry, key []byte) []api.Entry {
	return slices.DeleteFunc(slices.Clone(l), func(e api.Entry) bool { return string(e.Key) == string(key) })
}

func sorted(l []api.Entry) []api.Entry {
	l = slices.Clone(l)
	slices.SortFunc(l, func(a, b api.Entry) int { return cmp.Compare(string(a.Key), string(b.Key)) })
	return l
}

func wordsMap(l []api.Entry) []api.Entry {
	var out []api.Entry
	for _, e := range l {
		out = append(without(out, e.Key), e)
	}
	return sorted(out)
}

func wordsDo(l []api.Entry, c api.Call) []api.Entry {
	switch {
	case !wordsCounts(c):
		return l
	case c.Op.Kind == api.OpDelete:
		return without(l, c.Op.Key)
	}
	return sorted(append(without(l, c.Op.Key), api.Entry{Key: c.Op.Key, Value: c.Op.Value}))
}

func wordsAfter(start []api.Entry, l []api.Call, now int) []api.Entry {
	out := wordsMap(start)
	for _, place := range wordsLine(l) {
		if l[place].Point < now {
			out = wordsDo(out, l[place])
		}
	}
	return out
}

func keyed(c api.Call) bool {
	return slices.Contains([]api.OpKind{api.OpGet, api.OpPut, api.OpDelete}, c.Op.Kind)
}

// reasons are the six lines of ErrOrderPoint.
var reasons = []func(c api.Call, ahead []api.Call) bool{
	func(c api.Call, ahead []api.Call) bool { return c.First < 0 || c.Done && c.Last < c.First },
	func(c api.Call, ahead []api.Call) bool {
		return keyed(c) && c.Done && (c.Point < c.First || c.Point > c.Last)
	},
	func(c api.Call, ahead []api.Call) bool {
		return keyed(c) && !c.Done && c.Point != -1 && c.Point < c.First
	},
	func(c api.Call, ahead []api.Call) bool { return !keyed(c) && c.Point != -1 },
	func(c api.Call, ahead []api.Call) bool {
		return c.Point >= 0 && slices.ContainsFunc(ahead, func(o api.Call) bool { return o.Point == c.Point })
	},
	func(c api.Call, ahead []api.Call) bool {
		return slices.ContainsFunc(ahead, func(o api.Call) bool { return o.Client == c.Client && (!o.Done || o.Last > c.First) })
	},
}

// whyNot are the numbers of the reasons that a call at a place gives.
func whyNot(l []api.Call, place int) []int {
	var out []int
	for number, reason := range reasons {
		if reason(l[place], l[:place]) {
			out = append(out, number)
		}
	}
	return out
}

// find is what a list has of a key.
func find(l []api.Entry, key []byte) (string, bool) {
	i := slices.IndexFunc(l, func(e api.Entry) bool { return string(e.Key) == string(key) })
	if i < 0 {
		return "", false
	}
	return string(l[i].Value), true
}

func wordsWrong(c api.Call, now []api.Entry) bool {
	value, has := find(now, c.Op.Key)
	key := len(c.Op.Key) >= 1 && len(c.Op.Key) <= 64
	switch c.Op.Kind {
	case api.OpGet:
		if !key {
			return c.Err != api.ErrLong || c.There || len(c.Value) > 0
		}
		return c.Err != api.OK || c.There != has || string(c.Value) != value
	case api.OpPut:
		if !key || len(c.Op.Value) > 256 {
			return c.Err != api.ErrLong || c.There
		}
		return c.Err != api.OK && c.Err != api.ErrFull || c.Err == api.OK && c.There != has || c.Err == api.ErrFull && (c.There || has)
	}
	if !key {
		return c.Err != api.ErrLong || c.There
	}
	return c.Err != api.OK || c.There != has
}

func wordsCheck(h api.History) (int, api.Errno) {
	for place := range h.Calls {
		if len(whyNot(h.Calls, place)) > 0 {
			return place, api.ErrOrderPoint
		}
	}
	now := wordsMap(h.Start)
	for _, place := range wordsLine(h.Calls) {
		if h.Calls[place].Done && wordsWrong(h.Calls[place], now) {
			return place, api.ErrOrderAnswer
		}
		now = wordsDo(now, h.Calls[place])
	}
	if len(h.Held) == 0 && list(h.End) != list(now) {
		return len(h.Calls), api.ErrOrderAnswer
	}
	return -1, api.OK
}

// wordsSeen looks at each moment by itself: the test's moments are few.
func wordsSeen(h api.History, l []api.Entry, lo []byte, hi []byte, from int, to int) bool {
	in := func(key []byte) bool {
		return string(key) >= string(lo) && (len(hi) == 0 || string(key) < string(hi))
	}
	if to < from {
		return false
	}
	for i, e := range l {
		if i > 0 && string(l[i-1].Key) >= string(e.Key) || !in(e.Key) {
			return false
		}
	}
	var keys [][]byte
	for _, e := range slices.Concat(l, h.Start) {
		keys = append(keys, e.Key)
	}
	for _, c := range h.Calls {
		if wordsWrite(c) {
			keys = append(keys, c.Op.Key)
		}
	}
	for _, key := range keys {
		value, says := find(l, key)
		once := false
		for m := from; m <= to; m++ {
			was, has := find(wordsAfter(h.Start, h.Calls, m), key)
			once = once || was == value && has == says
		}
		if in(key) && !once {
			return false
		}
	}
	return true
}

// anyEntries are some, of few keys; they may fall, or stand twice.
func (d *dice) anyEntries(most int) []api.Entry {
	var l []api.Entry
	for range d.below(most + 1) {
		l = append(l, api.Entry{Key: d.anyKey(), Value: []byte("123")[:d.below(3)]})
	}
	if d.below(3) > 0 {
		slices.SortFunc(l, func(a, b api.Entry) int { return cmp.Compare(string(a.Key), string(b.Key)) })
	}
	return l
}

func (d *dice) anyKey() []byte {
	return [][]byte{{}, []byte("a"), []byte("b"), []byte("ba"), []byte("c"), []byte(long(64)), []byte(long(65))}[d.pick(0, 1, 1, 2, 2, 3, 3, 4, 4, 5, 6)]
}

// anyCall is one that holds to nothing.
func (d *dice) anyCall() api.Call {
	c := api.Call{Client: d.below(3), First: d.below(12) - 1, Done: d.below(4) > 0, There: d.below(2) > 0, Point: d.below(12) - 2}
	c.Last = c.First + d.below(5) - 1
	c.Op = api.Op{Kind: api.OpKind(d.pick(1, 2, 2, 3, 3, 4, 5, 0)), Key: d.anyKey(), Value: []byte("123")[:d.below(3)]}
	if d.below(20) == 0 {
		c.Op.Value = []byte(long(d.pick(256, 257)))
	}
	c.Err = api.Errno(d.pick(0, 0, 0, 0, 2, 3, 4, -1))
	c.Value = []byte("123")[:d.below(3)]
	return c
}

func (d *dice) anyHistory() api.History {
	h := api.History{Start: d.anyEntries(4), End: d.anyEntries(4)}
	for range d.below(6) {
		h.Calls = append(h.Calls, d.anyCall())
	}
	if d.below(3) == 0 {
		h.Held = []int{d.below(3)}
	}
	return h
}

// rightHistory is one that Check can say nothing against: calls one behind the other in time, of three clients, some in one another.
func (d *dice) rightHistory() api.History {
	h := api.History{Start: wordsMap(d.anyEntries(4))}
	now, free := h.Start, [3]int{}
	open := [3]bool{}
	for step := 3; step < 3+5*(2+d.below(7)); step += 5 {
		c := d.anyCall()
		if open[c.Client] || free[c.Client] > step {
			continue
		}
		c.First = max(free[c.Client], step-d.below(8))
		c.Point, c.Last = step, step+d.below(9)
		c.Err, c.There, c.Value = api.OK, false, nil
		open[c.Client], free[c.Client] = !c.Done, c.Last
		if !keyed(c) || !c.Done && d.below(2) == 0 {
			c.Point = -1
		}
		for _, try := range d.answers(now, c) {
			if c.Done && keyed(c) && !wordsWrong(try, now) {
				c = try
			}
		}
		now = wordsDo(now, c)
		h.Calls = append(h.Calls, c)
	}
	h.End = now
	return h
}

// answers are all that a call may tell of a map, right or wrong, shuffled a little.
func (d *dice) answers(now []api.Entry, c api.Call) []api.Call {
	value, has := find(now, c.Op.Key)
	var out []api.Call
	for _, err := range []api.Errno{api.OK, api.ErrLong, api.ErrFull} {
		c.Err, c.There, c.Value = err, err == api.OK && has, nil
		if c.Op.Kind == api.OpGet && err == api.OK {
			c.Value = []byte(value)
		}
		out = append(out, c)
	}
	if d.below(2) == 0 {
		slices.Reverse(out)
	}
	return out
}

// turned is a history of which one thing is turned, or two.
func (d *dice) turned(h api.History) api.History {
	h = copied(h)
	for range 1 + d.below(2) {
		if len(h.Calls) == 0 || d.below(8) == 0 {
			h.End = d.anyEntries(4)
			continue
		}
		c, other := &h.Calls[d.below(len(h.Calls))], d.anyCall()
		switch d.below(12) {
		case 0:
			c.First = d.pick(-1, c.Last, c.Last+1, c.Point, c.Point+1)
		case 1:
			c.Last = d.pick(c.First-1, c.First, c.Point-1, c.Point)
		case 2:
			twin := h.Calls[d.below(len(h.Calls))].Point
			c.Point = d.pick(-2, -1, c.First-1, c.First, c.Last, c.Last+1, twin, twin, twin, twin)
		case 3:
			c.Done = !c.Done
		case 4:
			c.Client = other.Client
		case 5:
			c.Err = other.Err
		case 6:
			c.There = !c.There
		case 7:
			c.Value = other.Value
		case 8:
			c.Op.Kind = other.Op.Kind
		case 9:
			c.Op.Key = other.Op.Key
		case 10:
			c.Op.Value = other.Op.Value
		case 11:
			h.Start = d.anyEntries(4)
		}
	}
	return h
}

// All calls, of histories that hold to nothing, to all, and to nearly all, against the second telling.
func TestWords(t *testing.T) {
	seen, why := map[string]int{}, [6]int{}
	for seed := range 20000 {
		d := dice(seed)
		h, what := d.anyHistory(), "any"
		if seed%4 > 0 {
			h, what = d.rightHistory(), "right"
		}
		if seed%4 > 1 {
			h, what = d.turned(h), "turned"
		}
		was := told(h)
		if got, want := order.Line(h.Calls), wordsLine(h.Calls); !slices.Equal(got, want) {
			t.Fatalf("Line: %v, not %v: %s", got, want, was)
		}
		place, err := order.Check(h)
		if i, e := wordsCheck(h); i != place || e != err {
			t.Fatalf("Check: %d %d, not %d %d: %s", place, err, i, e, was)
		}
		seen[what+" "+err.Error()]++
		if err == api.ErrOrderPoint {
			if numbers := whyNot(h.Calls, place); len(numbers) == 1 {
				why[numbers[0]]++
			}
		}
		for range 3 {
			now := d.below(60) - 3
			if got, want := list(order.After(h.Start, h.Calls, now)), list(wordsAfter(h.Start, h.Calls, now)); got != want {
				t.Fatalf("After %d: %s, not %s: %s", now, got, want, was)
			}
			l, lo, hi, from := d.look(h)
			to := from + d.below(8) - 1
			got := order.Seen(h, l, lo, hi, from, to)
			if got != wordsSeen(h, l, lo, hi, from, to) {
				t.Fatalf("Seen %s, %q to %q, %d to %d: %t: %s", list(l), lo, hi, from, to, got, was)
			}
			if got {
				seen["seen"]++
			} else {
				seen["not seen"]++
			}
		}
		if told(h) != was {
			t.Fatalf("%s\nwas\n%s", told(h), was)
		}
	}
	enough(t, seen, 500, "any coppice: error 201", "right coppice: error 0", "turned coppice: error 0", "turned coppice: error 201", "turned coppice: error 202", "seen", "not seen")
	for number, count := range why {
		if count < 20 {
			t.Errorf("reason %d by itself: %d", number, count)
		}
	}
	if seen["right coppice: error 0"] != 5000 {
		t.Errorf("right: %d", seen["right coppice: error 0"])
	}
}

// enough: did things that a test must meet come often enough?
func enough(t *testing.T, seen map[string]int, least int, what ...string) {
	t.Helper()
	for _, word := range what {
		if seen[word] < least {
			t.Errorf("%s: %d", word, seen[word])
		}
	}
}

// look is what one may have seen of a history: entries of some moment, or of two, perhaps one thing turned; a range; a moment.
func (d *dice) look(h api.History) ([]api.Entry, []byte, []byte, int) {
	lo, hi, from := d.anyKey(), d.anyKey(), d.below(40)-3
	if d.below(2) == 0 {
		lo = nil
	}
	if d.below(2) == 0 {
		hi = nil
	}
	in := func(e api.Entry) bool {
		return string(e.Key) >= string(lo) && (len(hi) == 0 || string(e.Key) < string(hi))
	}
	var l []api.Entry
	early, late := order.After(h.Start, h.Calls, from), order.After(h.Start, h.Calls, from+d.below(9))
	for _, e := range early {
		if string(e.Key) < "b" && in(e) {
			l = append(l, e)
		}
	}
	for _, e := range late {
		if string(e.Key) >= "b" && in(e) {
			l = append(l, e)
		}
	}
	switch d.below(4) {
	case 0:
		l = d.anyEntries(4)
	case 1:
		if len(l) > 0 {
			l[d.below(len(l))].Value = d.anyCall().Op.Value
		}
	}
	return l, lo, hi, from
}
