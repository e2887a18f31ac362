package export_test

import (
	"bytes"
	"encoding/binary"
	"hash/crc32"
	"slices"
	"strconv"
	"strings"
	"testing"

	"coppice/api"
	"coppice/export"
	"coppice/pipe"
	"coppice/stream"
)

// The rows of the chapter's table of examples.
func TestExamples(t *testing.T) {
	const toBoth = "root word head body valid+2 "
	all := len(whole(ab().entries(), 1))
	for _, x := range []struct {
		block int
		takes []int
		fail  int
		names string
		want  ended
	}{
		{1, nil, 0, push + toBoth + push, ended{api.OK, 2, all}},
		{1, []int{3}, 0, push + push + toBoth + push, ended{api.OK, 2, all}},
		{1, nil, 2, push + toBoth + push, ended{api.ErrPipeBroken, 2, 8}},
		{0, nil, 0, "ARGS", ended{err: api.ErrArg}},
	} {
		r := start(t, ab(), x.block, asTold(x.takes, x.fail))
		r.ends(x.names, x.want.err)
		if how(r.m) != x.want {
			t.Errorf("%v; not %v", how(r.m), x.want)
		}

		// By the calls alone.
		sink := pipe.NewSink(x.takes, x.fail)
		m := export.New(ab().lay(t), x.block, sink)
		for range len(strings.Fields(x.names)) - 1 {
			if through, took := m.Step(); through || took || m.Answer() != api.OK {
				t.Fatalf("%v: on its way: %v, %v, %d", x, through, took, m.Answer())
			}
		}
		for range 2 {
			if through, took := m.Step(); !through || took || how(m) != x.want || len(sink.Bytes()) != x.want.bytes {
				t.Errorf("%v: %v, %v, %v, %d bytes", x, through, took, how(m), len(sink.Bytes()))
			}
		}
	}
	m := export.New(ab().lay(t), 1, nil)
	if through, took := m.Step(); !through || took || how(m) != (ended{err: api.ErrArg}) {
		t.Errorf("w nil: %v, %v, %v", through, took, how(m))
	}
}

// framed is a frame, told by hand: a kind, a body, the body's sum.
func framed(kind byte, body string) string {
	sum := binary.LittleEndian.AppendUint32(nil, crc32.ChecksumIEEE([]byte(body)))
	return string([]byte{kind, byte(len(body))}) + body + string(sum)
}

// What goes out at which step, by hand: the head at first, blocks as they are ended, in the end the last one, the foot and the tail. (The bytes are those of the example of chapter 8.)
func TestBytesStepByStep(t *testing.T) {
	head := "coppice\x01"
	first := framed('B', "\x02\x00\x02\x01ab1\x02\x01\x00c\x01\x00")
	second := framed('B', "\x01\x00\x01\x00c\x01\x00")
	foot := framed('F', "\x02\x03abc\x08\x13\x02\x01c\x1b\x0d\x01\x03")
	tail := "\x28\x00\x00\x00\x00\x00\x00\x00end."
	x := tree{9, 3, []api.Node{leaf("b", 2, "ab", "1", "abc", ""), leaf("", 0, "c", ""), inner(1, "", 0, texts("b"), 1, 2)}}
	r := start(t, x, 2, allTaken)
	wrote := func(names string, want ...string) {
		t.Helper()
		r.on(names)
		if !slices.Equal(r.sink.handed, want) {
			t.Fatalf("behind %s: %q; not %q", names, r.sink.handed, want)
		}
	}
	wrote("")
	wrote(push, head)
	wrote(down+adds(along, 2), head)
	wrote(push, head, first)
	wrote(adds(next, 1), head, first)
	r.ends(push, api.OK)
	wrote("", head, first, second+foot+tail)
}

// Trees without entries: the head, a descent, the foot of no rows.
func TestNoEntries(t *testing.T) {
	none := tall()
	for id := 1; id <= 5; id++ {
		n := none.nodes[id-1]
		n.Body = api.Body{}
		none = none.set(id, n)
	}
	empty := []byte("coppice\x01\x46\x02\x00\x00\xff\x12\xd9\x41\x08\x00\x00\x00\x00\x00\x00\x00end.")
	for _, x := range []struct {
		tree  tree
		names string
	}{
		{lone(), push + down + push},
		{small().set(1, leaf("m", 2)).set(2, leaf("", 0)), push + down + along + next + push},
		{none, push + down + along + along + next + next + next + next + push},
	} {
		for _, block := range []int{1, 2, 8, 63, 64} {
			r := start(t, x.tree, block, allTaken)
			r.ends(x.names, api.OK)
			if how(r.m) != (ended{api.OK, 0, 28}) || !bytes.Equal(r.sink.took, empty) {
				t.Fatalf("by %d: %v, % x", block, how(r.m), r.sink.took)
			}
		}
	}
}

// One leaf of each number of entries, by each number of entries a block: all that is read goes out in the end, at one stroke where the writer takes it so.
func TestEachBlock(t *testing.T) {
	for block := 1; block <= 64; block++ {
		for _, count := range []int{0, 1, 2, block - 1, block, block + 1, 2*block - 1, 2 * block, 2*block + 1} {
			x := lone(some(count)...)
			got := exported(t, x.lay(t), block)
			if want := whole(x.entries(), block); !bytes.Equal(got, want) {
				t.Fatalf("%d by %d: % x; not % x", count, block, got, want)
			}
			l, err, at := stream.Parse(got)
			if err != api.OK || list(l) != list(x.entries()) {
				t.Fatalf("%d by %d: %s, %d at %d", count, block, list(l), err, at)
			}
		}
	}
}

// Where blocks end among the leaves: PUSH is next just if a block was ended by the leaf that was taken; else the next leaf is read at once.
func TestWhereBlocksEnd(t *testing.T) {
	start9 := push + down
	for _, x := range []struct {
		counts []int
		block  int
		names  string
	}{
		// Each leaf is a block; one has one entry less, or more.
		{[]int{2, 2}, 2, start9 + adds(along, 2) + push + adds(next, 2) + push},
		{[]int{1, 2}, 2, start9 + adds(along, 1) + adds(next, 2) + push},
		{[]int{3, 2}, 2, start9 + adds(along, 3) + push + adds(next, 2) + push},
		{[]int{2, 1}, 2, start9 + adds(along, 2) + push + adds(next, 1) + push},
		{[]int{2, 3}, 2, start9 + adds(along, 2) + push + adds(next, 3) + push},
		// A block of several leaves, and several blocks of a leaf.
		{[]int{1, 1, 1, 1, 1}, 3, start9 + adds(along, 1) + adds(next, 1) + adds(next, 1) + push + adds(next, 1) + adds(next, 1) + push},
		{[]int{2, 2, 2}, 3, start9 + adds(along, 2) + adds(next, 2) + push + adds(next, 2) + push},
		{[]int{7, 1, 1}, 3, start9 + adds(along, 7) + push + adds(next, 1) + adds(next, 1) + push},
		{[]int{1, 1, 1}, 1, start9 + adds(along, 1) + push + adds(next, 1) + push + adds(next, 1) + push},
		{[]int{1, 1, 1}, 64, start9 + adds(along, 1) + adds(next, 1) + adds(next, 1) + push},
		{[]int{63, 1, 1}, 64, start9 + adds(along, 63) + adds(next, 1) + push + adds(next, 1) + push},
		{[]int{64, 1}, 64, start9 + adds(along, 64) + push + adds(next, 1) + push},
		{[]int{65, 1}, 64, start9 + adds(along, 65) + push + adds(next, 1) + push},
		// Leaves without entries end no block.
		{[]int{0, 2, 0}, 2, start9 + along + adds(next, 2) + push + next + push},
		{[]int{2, 0, 0, 2}, 2, start9 + adds(along, 2) + push + next + next + adds(next, 2) + push},
		{[]int{1, 0, 1}, 2, start9 + adds(along, 1) + next + adds(next, 1) + push},
		{[]int{1, 0, 0}, 2, start9 + adds(along, 1) + next + next + push},
	} {
		r := start(t, row(x.counts...), x.block, allTaken)
		r.ends(x.names, api.OK)
		if want := whole(row(x.counts...).entries(), x.block); !bytes.Equal(r.sink.took, want) {
			t.Fatalf("%d by %d: % x; not % x", x.counts, x.block, r.sink.took, want)
		}
	}
}

// A tree of three levels, by a descent once, and along the leaves, those too that are nobody's children; what inner nodes have are nobody's entries.
func TestTall(t *testing.T) {
	start(t, tall(), 64, allTaken).ends(push+down+along+adds(along, 1)+adds(next, 3)+adds(next, 1)+adds(next, 1)+adds(next, 2)+push, api.OK)
	r := start(t, tall(), 4, allTaken)
	r.ends(push+down+along+adds(along, 1)+adds(next, 3)+push+adds(next, 1)+adds(next, 1)+adds(next, 2)+push, api.OK)
	if l, err, _ := stream.Parse(r.sink.took); err != api.OK || list(l) != "b=1 d=2 e= f=3 h=4 m=5 p=6 q=7" {
		t.Fatalf("%s, %d", list(l), err)
	}
}

// The keys and values of the greatest lengths, and of all bytes.
func TestLongEntries(t *testing.T) {
	long, value := strings.Repeat("\xff", 64), strings.Repeat("\x00", 256)
	for _, x := range []tree{lone(long, value), lone("\x00", "", "\x00\x00", value, long, "")} {
		got := exported(t, x.lay(t), 2)
		if l, err, _ := stream.Parse(got); err != api.OK || list(l) != list(x.entries()) {
			t.Fatalf("%s, %d", list(l), err)
		}
	}
}

// A latch that is held: the scan waits for it; what waits to be handed on doesn't.
func TestWaits(t *testing.T) {
	r := start(t, row(2, 2), 1, asTold([]int{3}, 0))
	hold(r.a, 3)
	r.on(push + push + "root " + strings.Repeat("word ", 20))
	r.a.Unlock(3, false)
	r.on("word head body valid ")
	hold(r.a, 2)
	r.on(adds(along, 2))
	r.on(push + strings.Repeat("WORD ", 50))
	r.a.SetBody(2, leaf("", 0, "k002", "other").Body)
	r.a.Unlock(2, true)
	r.ends(adds(next, 1)+push, api.OK)
	if l, _, _ := stream.Parse(r.sink.took); list(l) != "k000=0 k001=1 k002=other" {
		t.Fatalf("%s", list(l))
	}
	// A leaf that was turned while it was read is read once more, and nothing of it has been added.
	r = start(t, row(2, 2), 1, allTaken)
	r.on(push + down + adds(along, 2) + push + "WORD HEAD")
	lay(r.a, 2, leaf("", 0, "k005", "5"))
	r.on("BODY VALID")
	r.ends(adds(next, 1)+push, api.OK)
	// The same on the way down.
	r = start(t, row(2, 2), 1, allTaken)
	r.on(push + down + "word head")
	lay(r.a, 1, leaf("k002", 2, "k001", "1"))
	r.on("body valid")
	r.ends(down+adds(along, 1)+push+adds(next, 2)+push, api.OK)
}

// Answer and Sent: ahead of the first step, at each step between, behind the end, as often as one likes.
func TestAnswerAndSent(t *testing.T) {
	names := strings.Fields(push + push + down + adds(along, 2) + push + adds(next, 2) + push)
	b := whole(row(2, 2).entries(), 2)
	frame := 8 + 2 + int(b[9]) + 4
	m := export.New(row(2, 2).lay(t), 2, pipe.NewSink([]int{3}, 0))
	entries, sent := 0, []int{3, 8, frame, len(b)}
	bytes := 0
	for i, name := range names {
		for range 3 {
			if how(m) != (ended{api.OK, entries, bytes}) {
				t.Fatalf("ahead of %s: %v; not %d, %d", name, how(m), entries, bytes)
			}
		}
		through, _ := m.Step()
		if through != (i == len(names)-1) {
			t.Fatalf("behind %s, step %d: %v", name, i+1, through)
		}
		if name == "PUSH" {
			bytes, sent = sent[0], sent[1:]
		}
		if _, more, is := strings.Cut(name, "+"); is {
			count, _ := strconv.Atoi(more)
			entries += count
		}
	}
	for range 3 {
		if how(m) != (ended{api.OK, 4, len(b)}) {
			t.Fatalf("behind the end: %v", how(m))
		}
		m.Step()
	}
}

// A machine that is through stays so, whatever is turned later, and its writer is not called any more.
func TestThrough(t *testing.T) {
	for _, x := range []struct {
		tree  tree
		block int
		mood  mood
	}{
		{small(), 2, allTaken}, {lone(), 2, allTaken}, {small(), 0, allTaken}, {small(), 65, allTaken},
		{small(), 2, asTold(nil, 1)}, {small(), 1, asTold(nil, 2)}, {small(), 2, asTold(nil, 3)},
		{small(), 2, always(-1, api.OK)}, {small(), 2, always(0, api.OK)},
		{small().set(1, leaf("m", 9, "b", "1")), 1, allTaken},
		{lone("b", strings.Repeat("v", 257)), 1, allTaken},
		{tree{9, 1, []api.Node{inner(1, "", 0, nil)}}, 1, allTaken},
	} {
		r := start(t, x.tree, x.block, x.mood)
		was := r.finish()
		for _, do := range []func(){
			func() { lay(r.a, 1, leaf("", 0, "b", "8", "c", "9")) },
			func() { hold(r.a, 1) },
			func() { r.sink.mood = allTaken },
			func() { replace(r.a) },
		} {
			do()
			r.stays()
			if how(r.m) != was {
				t.Fatalf("%v; then %v", was, how(r.m))
			}
		}
	}
}
