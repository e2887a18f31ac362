package scan_test

import (
	"bytes"
	"testing"

	"coppice/api"
	"coppice/scan"
)

// P3: lo and hi that are handed in are not kept: whoever changes them later, at any step or behind the end, changes nothing. Nor are they, or their spare room, written to.
func TestHandedIn(t *testing.T) {
	names := down + along + next
	for _, other := range []string{"zzzzzzzzzz", "\x00\x00\x00\x00\x00\x00\x00\x00\x00\x00"} {
		for steps := range count(names) + 1 {
			a := pairs().lay(t)
			lo, hi := []byte("c and more"), []byte("e and more")
			m := scan.New(a, lo[:1], hi[:1], 9)
			for i := range count(names) {
				if i == steps {
					if string(lo) != "c and more" || string(hi) != "e and more" {
						t.Fatalf("the bounds and their spare room: %q, %q", lo, hi)
					}
					copy(lo, other)
					copy(hi, other)
				}
				m.Step()
			}
			if got := answered(m); got != found("c=3 d=4") {
				t.Fatalf("changed behind %d steps: %v", steps, got)
			}
			copy(lo, other)
			copy(hi, other)
			if got := answered(m); got != found("c=3 d=4") || list(m.Fresh()) != "c=3 d=4" {
				t.Fatalf("changed behind the end: %v", got)
			}
			if string(hi) != other {
				t.Fatalf("hi was written to: %q", hi)
			}
		}
	}
	// A range that could have nothing, or something, when New was called.
	lo, hi := []byte("c"), []byte("c")
	m := scan.New(pairs().lay(t), lo, hi, 9)
	copy(lo, "a")
	if through, _ := m.Step(); !through || answered(m) != found("") {
		t.Fatalf("%v, %v", through, answered(m))
	}
	lo, hi = []byte("a"), []byte("d")
	m = scan.New(pairs().lay(t), lo, hi, 9)
	copy(lo, "x")
	for through := false; !through; through, _ = m.Step() {
	}
	if answered(m) != found("a=1 c=3") {
		t.Fatalf("%v", answered(m))
	}
}

// spoil changes all that its owner can of a list of entries: each text, its spare room, the list, its spare room.
func spoil(l []api.Entry) {
	for i := range l {
		for _, text := range [][]byte{l[i].Key, l[i].Value} {
			text = text[:cap(text)]
			for j := range text {
				text[j] = '#'
			}
		}
	}
	l = l[:cap(l)]
	for i := range l {
		l[i] = api.Entry{Key: []byte("#"), Value: []byte("#")}
	}
}

// P3: what Fresh and Answer give is new memory: whoever changes it, at any step, changes neither a later answer nor the arena, and no two of them share any.
func TestGivenOut(t *testing.T) {
	for _, often := range []bool{false, true} {
		a := tall().lay(t)
		was := state(a)
		m := scan.New(a, nil, nil, 99)
		var fresh []api.Entry
		for through := false; !through; {
			through, _ = m.Step()
			if often {
				l := m.Fresh()
				for _, e := range l {
					fresh = append(fresh, api.Entry{Key: bytes.Clone(e.Key), Value: bytes.Clone(e.Value)})
				}
				spoil(l)
			}
		}
		const all = "b=1 d=2 e= f=3 h=4 m=5 p=6 q=7"
		if often && list(fresh) != all {
			t.Fatalf("fresh: %s", list(fresh))
		}
		for range 3 {
			one, _ := m.Answer()
			other, _ := m.Answer()
			spoil(one)
			if list(other) != all {
				t.Fatalf("another answer was changed: %s", list(other))
			}
		}
		one, _ := m.Answer()
		spoil(m.Fresh())
		if list(one) != all || answered(m) != found(all) || state(a) != was {
			t.Fatalf("changed: %s, %v, %s", list(one), answered(m), state(a))
		}
	}
}

// The texts of one answer lie apart: what is appended to one of them, or written over it, is seen in no other.
func TestTextsApart(t *testing.T) {
	textsOf := func(m *scan.Machine, fresh bool) [][]byte {
		l, _ := m.Answer()
		if fresh {
			l = m.Fresh()
		}
		var out [][]byte
		for _, e := range l {
			out = append(out, e.Key, e.Value)
		}
		return out
	}
	for _, fresh := range []bool{false, true} {
		for at := range 16 {
			m := scan.New(tall().lay(t), nil, nil, 99)
			for through := false; !through; through, _ = m.Step() {
			}
			l := textsOf(m, fresh)
			var was []string
			for _, text := range l {
				was = append(was, string(text))
			}
			all := l[at][:cap(l[at])]
			for i := range all {
				all[i] = '#'
			}
			for i, text := range l {
				if i != at && string(text) != was[i] {
					t.Fatalf("text %d is %q, as text %d was written over", i, text, at)
				}
			}
		}
	}
}

// What is told is not the arena's own: whoever turns a leaf later changes nothing that was taken of it.
func TestTurnedLater(t *testing.T) {
	r := start(t, pairs(), "", "", 9)
	r.on(down + takes(along, 2))
	hold(r.a, 1)
	r.a.SetBody(1, leaf("", 0, "x", "9", "y", "9").Body)
	r.a.SetHead(1, api.Head{})
	r.a.Unlock(1, true)
	r.ends(takes(next, 2), found("a=1 c=3 d=4 f=6"))
	lay(r.a, 2, leaf("", 0))
	r.stays()
	if got := answered(r.m); got != found("a=1 c=3 d=4 f=6") {
		t.Fatalf("%v", got)
	}
}
