package export

import (
	"strings"
	"testing"

	"coppice/api"
	"coppice/arena"
	"coppice/pipe"
)

// finds is a finder that finds what it was told to, step by step: keys. Behind the last step it is through.
type finds struct {
	steps [][]string
	at    int
	err   api.Errno
}

func (f *finds) Step() (bool, bool) {
	f.at++
	return f.at == len(f.steps), false
}

func (f *finds) Fresh() []api.Entry {
	var l []api.Entry
	for _, key := range f.steps[f.at-1] {
		l = append(l, api.Entry{Key: []byte(key)})
	}
	return l
}

func (f *finds) Answer() ([]api.Entry, api.Errno) {
	if f.at < len(f.steps) {
		return nil, api.OK
	}
	return nil, f.err
}

// What the leaves can't bring about: keys that do not rise, entries of the step by which the scan ends with an error. What the Writer refuses comes ahead of the scan's error; where it refuses nothing, what was added by that step counts, and does not go out.
func TestOddFinders(t *testing.T) {
	const lost = api.ErrArenaNode
	for _, x := range []struct {
		steps string // divided by bars
		err   api.Errno
		want  api.Errno
		added int
		calls int
	}{
		{"a b|c", api.OK, api.OK, 3, 3},
		{"|a b||c|", api.OK, api.OK, 3, 3},
		{"a b|c|b|d", api.OK, api.ErrPairOrder, 3, 2},
		{"a b|b", api.OK, api.ErrPairOrder, 2, 2},
		{"a b b|c", api.OK, api.ErrPairOrder, 2, 1},
		{"a|c d b", lost, api.ErrPairOrder, 3, 1},
		{"a|b c d", lost, lost, 4, 1},
		{"a|", lost, lost, 1, 1},
		{"", lost, lost, 0, 1},
	} {
		a, _ := arena.New(1)
		sink := pipe.NewSink(nil, 0)
		m := New(a, 2, sink)
		f := &finds{err: x.err}
		for part := range strings.SplitSeq(x.steps, "|") {
			f.steps = append(f.steps, strings.Fields(part))
		}
		m.finder = f
		for through := false; !through; through, _ = m.Step() {
		}
		if added, _ := m.Sent(); m.Answer() != x.want || added != x.added || sink.Calls() != x.calls {
			t.Errorf("%s: %d, %d entries, %d calls; not %d, %d, %d", x.steps, m.Answer(), added, sink.Calls(), x.want, x.added, x.calls)
		}
	}
}
