package order

import (
	"bytes"

	"coppice/api"
)

// change is what a map has of a key from behind a point on, up to the point of the key's next change.
type change struct {
	point int
	had   had
}

// Seen: is a list of entries what a look between two moments may see, key by key?
func Seen(h api.History, l []api.Entry, lo []byte, hi []byte, from int, to int) bool {
	if to < from || !rising(l) {
		return false
	}
	said := mapOf(l)
	for key := range said {
		if !between(key, string(lo), string(hi)) {
			return false
		}
	}
	for key, changes := range stories(h, l) {
		if between(key, string(lo), string(hi)) && !showed(changes, said[key], from, to) {
			return false
		}
	}
	return true
}

func rising(l []api.Entry) bool {
	for i := 1; i < len(l); i++ {
		if bytes.Compare(l[i-1].Key, l[i].Key) >= 0 {
			return false
		}
	}
	return true
}

// between: does a key stand in a range? Nothing bounds it above, if hi is empty.
func between(key, lo, hi string) bool { return key >= lo && (hi == "" || key < hi) }

// stories are the changes of each key that somebody named, what it had at first ahead of them.
func stories(h api.History, l []api.Entry) map[string][]change {
	start, out := mapOf(h.Start), map[string][]change{}
	begin := func(key []byte) { out[string(key)] = []change{{had: start[string(key)]}} }
	for _, e := range h.Start {
		begin(e.Key)
	}
	for _, e := range l {
		begin(e.Key)
	}
	for i := range h.Calls {
		if writes(h.Calls[i].Op.Kind) {
			begin(h.Calls[i].Op.Key)
		}
	}
	for _, place := range Line(h.Calls) {
		if c := &h.Calls[place]; counts(c) {
			key := string(c.Op.Key)
			out[key] = append(out[key], change{point: c.Point, had: behind(c)})
		}
	}
	return out
}

// showed: did a key have this at one of the moments from one to another? Changes of one point leave no moment between them.
func showed(changes []change, said had, from int, to int) bool {
	for i, now := range changes {
		last := to
		if i+1 < len(changes) {
			last = min(to, changes[i+1].point)
		}
		// What it had at first it had at every moment ahead of its changes, be it ever so low.
		if now.had == said && from <= last && (i == 0 || now.point < last) {
			return true
		}
	}
	return false
}
