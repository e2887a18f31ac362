package order

import (
	"bytes"
	"slices"

	"coppice/api"
)

// answer is what a call told of its key. Of a write only its error and whether the key was there are one.
type answer struct {
	err api.Errno
	had had
}

// past is how a client's latest call ended.
type past struct {
	done bool
	last int
}

// Check: does a history follow one order? The first call that does not, and why; -1: it does.
func Check(h api.History) (int, api.Errno) {
	if place := misplaced(h.Calls); place >= 0 {
		return place, api.ErrOrderPoint
	}
	now := mapOf(h.Start)
	for _, place := range Line(h.Calls) {
		c := &h.Calls[place]
		if c.Done && !right(c, now[string(c.Op.Key)]) {
			return place, api.ErrOrderAnswer
		}
		do(now, c)
	}
	if len(h.Held) == 0 && !slices.EqualFunc(h.End, list(now), same) {
		return len(h.Calls), api.ErrOrderAnswer
	}
	return -1, api.OK
}

func same(a, b api.Entry) bool { return bytes.Equal(a.Key, b.Key) && bytes.Equal(a.Value, b.Value) }

// misplaced is the place of the first call whose moments may not be; -1: there is none.
func misplaced(l []api.Call) int {
	met := map[int]struct{}{} // points
	pasts := map[int]past{}   // by client
	for place := range l {
		c := &l[place]
		// Only the latest call of a client is asked: those ahead of it ended no later than it began.
		before, some := pasts[c.Client]
		if !timely(c) || some && (!before.done || before.last > c.First) {
			return place
		}
		pasts[c.Client] = past{done: c.Done, last: c.Last}
		if c.Point < 0 {
			continue
		}
		if _, twice := met[c.Point]; twice {
			return place
		}
		met[c.Point] = struct{}{}
	}
	return -1
}

// timely: do a call's own moments fit one another, and its kind?
func timely(c *api.Call) bool {
	switch {
	case c.First < 0 || c.Done && c.Last < c.First:
		return false
	case c.Op.Kind != api.OpGet && !writes(c.Op.Kind):
		return c.Point == -1
	case c.Done:
		return c.First <= c.Point && c.Point <= c.Last
	}
	return c.Point == -1 || c.Point >= c.First
}

// right: did a get, a put or a deletion tell what a map answers that has this of its key?
func right(c *api.Call, has had) bool {
	told := answer{err: c.Err, had: had{there: c.There}}
	if c.Op.Kind == api.OpGet {
		told.had.value = string(c.Value)
	} else {
		has.value = ""
	}
	if !fits(&c.Op) {
		return told == answer{err: api.ErrLong}
	}
	// A put of a key that is there needs no room.
	if c.Op.Kind == api.OpPut && !has.there && told == (answer{err: api.ErrFull}) {
		return true
	}
	return told == answer{had: has}
}
