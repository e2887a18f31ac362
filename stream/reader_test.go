package stream_test

import (
	"bytes"
	"math"
	"slices"
	"testing"

	"coppice/api"
	"coppice/pipe"
	"coppice/stream"
	"coppice/vint"
)

func ones(count int) []int { return slices.Repeat([]int{1}, count) }

// items are the places where the items of a stream begin, the look at its end too.
func items(b []byte) []int {
	l := []int{0}
	for at := 8; ; {
		kind := b[at]
		size, body, _ := vint.Read(b, at+1)
		sum := body + int(size)
		l = append(l, at, at+1, body, sum)
		at = sum + 4
		if kind == 'F' {
			return append(l, at, at+12)
		}
	}
}

// itemOf is where the item begins that has the byte at a place.
func itemOf(l []int, place int) int {
	n, is := slices.BinarySearch(l, place)
	if !is {
		n--
	}
	return l[n]
}

// ahead is what must be told of a stream that is read up to a place, where an error comes.
func ahead(b []byte, place int, err api.Errno) answer {
	whole := told(b)
	x := answer{err: err, at: itemOf(items(b), place)}
	for _, s := range whole.spans {
		if s.At+s.Len <= place {
			x.spans = append(x.spans, s)
			x.l = append(x.l, whole.l[len(x.l):len(x.l)+s.Entries]...)
		}
	}
	return x
}

// some are streams of no entries, one, several blocks, and blocks of several sizes.
func some(t *testing.T) [][]byte {
	t.Helper()
	d := dice(3)
	mixed, _ := written(t, d.cut(d.entries(5)))
	return [][]byte{whole(t, nil, 1), whole(t, three()[:1], 1), whole(t, three(), 2), whole(t, plain(70), 64), mixed}
}

// S3: nil of nil; else one that has read nothing, and asks nobody till it is asked.
func TestNewReader(t *testing.T) {
	if stream.NewReader(nil) != nil {
		t.Error("not nil")
	}
	s := source(whole(t, three(), 2))
	r := stream.NewReader(s)
	r.All()
	if err, at := r.Fault(); err != api.OK || at != 0 || len(r.Spans()) != 0 || s.Calls() != 0 {
		t.Errorf("%d, %d, %v, %d calls", err, at, r.Spans(), s.Calls())
	}
}

// S3, S4: block by block, with the rows so far; behind the end there is nothing more, and nobody is asked.
func TestBlocks(t *testing.T) {
	for _, b := range some(t) {
		want := told(b)
		s := source(b)
		r := stream.NewReader(s)
		for i, row := range want.spans {
			l, is := r.Block()
			if !is || !sameList(l, want.l[:row.Entries]) {
				t.Fatalf("block %d: %v, %v", i, l, is)
			}
			want.l = want.l[row.Entries:]
			if err, at := r.Fault(); err != api.OK || at != 0 || !sameSpans(r.Spans(), want.spans[:i+1]) {
				t.Fatalf("block %d: %d, %d, %v", i, err, at, r.Spans())
			}
			if s.Left() != len(b)-row.At-row.Len {
				t.Fatalf("block %d: %d bytes are left", i, s.Left())
			}
		}
		calls := 0
		for i := range 3 {
			if l, is := r.Block(); len(l) != 0 || is {
				t.Fatalf("behind the end: %v", l)
			}
			if l := drawn(r.All()); len(l) != 0 {
				t.Fatalf("behind the end: %v", l)
			}
			if err, at := r.Fault(); err != api.OK || at != 0 || !sameSpans(r.Spans(), want.spans) || s.Left() != 0 {
				t.Fatalf("the end: %d, %d, %v", err, at, r.Spans())
			}
			if i > 0 && s.Calls() != calls {
				t.Fatal("asked behind the end")
			}
			calls = s.Calls()
		}
	}
}

// asker is a Reader that gives all it is asked for, and tells an error each time; it keeps what it was asked.
type asker struct {
	left  []byte
	err   api.Errno
	asked []int
}

func (a *asker) Read(p []byte) (int, api.Errno) {
	a.asked = append(a.asked, len(p))
	n := copy(p, a.left)
	a.left = a.left[n:]
	return n, a.err
}

// asks are the rooms that a Reader of a stream must ask for, where it gets all: of each item no byte more than it is at.
func asks(b []byte) []int {
	places := items(b)
	l := []int{8}
	for i := 1; i < len(places)-1; i++ {
		size := places[i+1] - places[i]
		if i%4 == 2 && size < 10 && i < len(places)-3 {
			l = append(l, ones(size)...) // a number goes byte by byte
			continue
		}
		for ; size > 4096; size -= 4096 {
			l = append(l, 4096)
		}
		l = append(l, size)
	}
	return append(l, 1)
}

// S3: no more is asked for than the item that it is at has; an error that comes with an item's last bytes is not looked at.
func TestAsks(t *testing.T) {
	var great []api.Entry
	for i := range 100 {
		great = append(great, api.Entry{Key: even(i), Value: make([]byte, 256)})
	}
	streams := append(some(t), whole(t, great, 64))
	for i, b := range streams {
		for _, err := range []api.Errno{api.OK, api.ErrPipeEnd, 999} {
			if i == len(streams)-1 && err != api.OK {
				break // its blocks come by several calls: an error would come ahead of their last bytes
			}
			a := &asker{left: b, err: err}
			want := told(b)
			if err == 999 {
				want.err, want.at = 999, len(b)
			}
			rooms := asks(b)
			if err == api.OK {
				rooms = append(rooms, ones(15)...) // it gives nothing at the end, again and again
				want.err, want.at = api.ErrPipeIdle, len(b)
			}
			if got := readAll(a); !got.same(want) {
				t.Errorf("with %d: %v", err, got)
			}
			if !slices.Equal(a.asked, rooms) {
				t.Errorf("with %d: asked %v; want %v", err, a.asked, rooms)
			}
		}
	}
}

// S3, P8.3: no beginning of a stream is one: the error has the place of the item that is cut.
func TestBeginnings(t *testing.T) {
	for _, b := range some(t) {
		for size := range len(b) {
			want := ahead(b, size, api.ErrCursorShort)
			for _, x := range []api.Feed{{}, {Eager: true}, {Gives: ones(size)}, {Gives: ones(size), Eager: true}} {
				x.Bytes = b[:size]
				if got := readAll(pipe.NewSource(x)); !got.same(want) {
					t.Fatalf("%d of %d bytes: %v; want %v", size, len(b), got, want)
				}
			}
			if hold(t, b[:size]) {
				t.Fatalf("%d of %d bytes are a stream", size, len(b))
			}
		}
	}
}

// S3, P8.3: nor is one with something behind it.
func TestRest(t *testing.T) {
	for _, b := range some(t) {
		for _, rest := range [][]byte{{0}, {'B'}, []byte("end."), b, b[8:], b[len(b)-12:], make([]byte, 5000)} {
			checkParse(t, "a rest", slices.Concat(b, rest), api.ErrStreamRest, len(b))
			s := source(slices.Concat(b, rest))
			readAll(s)
			if s.Left() != len(rest)-1 {
				t.Errorf("%d of %d are left", s.Left(), len(rest))
			}
		}
	}
}

// S3: a source that fails, at each call: the error has the place of the item that it was to read; what was right stays told.
func TestFails(t *testing.T) {
	for _, b := range some(t) {
		for call := range len(b) + 1 {
			x := api.Feed{Bytes: b, Gives: ones(len(b)), Fail: call + 1}
			if got, want := readAll(pipe.NewSource(x)), ahead(b, call, api.ErrPipeBroken); !got.same(want) {
				t.Fatalf("call %d: %v; want %v", call, got, want)
			}
		}
		x := api.Feed{Bytes: b, Gives: ones(len(b)), Fail: len(b) + 2}
		if got := readAll(pipe.NewSource(x)); !got.same(told(b)) {
			t.Fatalf("it fails when all is over: %v", got)
		}
	}
}

// jumper is a Reader that gives a byte a call, but at one call does something else.
type jumper struct {
	left  []byte
	call  int
	n     func(room int) int
	err   api.Errno
	calls int
}

func (j *jumper) Read(p []byte) (int, api.Errno) {
	j.calls++
	if j.calls-1 == j.call {
		return j.n(len(p)), j.err
	}
	if len(j.left) == 0 {
		return 0, api.ErrPipeEnd
	}
	n := copy(p[:1], j.left)
	j.left = j.left[n:]
	return n, api.OK
}

// S3: readers that tell numbers that can't be, and errors of their own; behind an error nobody is called.
func TestJumps(t *testing.T) {
	none := func(int) int { return 0 }
	for _, b := range some(t) {
		for call := range len(b) + 1 {
			for _, c := range []struct {
				n         func(int) int
				err, want api.Errno
			}{
				{func(int) int { return -1 }, api.OK, api.ErrPipeBad},
				{func(room int) int { return room + 1 }, api.ErrPipeEnd, api.ErrPipeBad},
				{func(int) int { return math.MaxInt }, 999, api.ErrPipeBad},
				{none, 999, 999},
				{none, -7, -7},
				{none, api.ErrStreamRest, api.ErrStreamRest},
				{none, api.ErrPipeEnd, api.ErrCursorShort},
				{none, api.OK, api.OK},
			} {
				j := &jumper{left: b, call: call, n: c.n, err: c.err}
				want := ahead(b, call, c.want)
				if c.want == api.OK || call == len(b) && c.err == api.ErrPipeEnd && c.want == api.ErrCursorShort {
					want = told(b)
				}
				r := stream.NewReader(j)
				got := answer{l: drawn(r.All()), spans: r.Spans()}
				got.err, got.at = r.Fault()
				if !got.same(want) {
					t.Fatalf("call %d: %v; want %v", call, got, want)
				}
				calls := j.calls
				r.Block()
				drawn(r.All())
				if err, at := r.Fault(); j.calls != calls || err != want.err || at != want.at {
					t.Fatalf("call %d: it went on", call)
				}
			}
		}
	}
}

// S3: fifteen calls that give nothing may be, sixteen running end it, at the item's place.
func TestIdle(t *testing.T) {
	b := whole(t, three(), 2)
	var gives []int
	for range len(b) {
		gives = append(append(gives, make([]int, 15)...), 1)
	}
	if got := readAll(source(b, gives...)); !got.same(told(b)) {
		t.Errorf("%v", got)
	}
	for place := range len(b) {
		gives := append(ones(place), make([]int, 16)...)
		if got, want := readAll(source(b, gives...)), ahead(b, place, api.ErrPipeIdle); !got.same(want) {
			t.Errorf("%d: %v; want %v", place, got, want)
		}
	}
}

// P8.2, S3: pieces of every size.
func TestPieces(t *testing.T) {
	d := dice(5)
	for _, b := range some(t) {
		for size := 1; size <= len(b); size++ {
			if got := readAll(source(b, slices.Repeat([]int{size}, len(b))...)); !got.same(told(b)) {
				t.Fatalf("pieces of %d: %v", size, got)
			}
		}
		checkPieces(t, &d, b, told(b))
	}
}

// S3, 1 and 2: another head; another kind, ahead of, between and behind blocks.
func TestHeadAndKind(t *testing.T) {
	b := whole(t, three(), 2)
	for at := range 8 {
		for c := range 256 {
			if byte(c) != b[at] {
				checkParse(t, "head", turned(b, at, byte(c)), api.ErrStreamHead, 0)
			}
		}
		checkParse(t, "head alone", turned(b, at, 'x')[:8], api.ErrStreamHead, 0)
	}
	for _, at := range []int{8, 27, 40} {
		for c := range 256 {
			if c != 'B' && c != 'F' {
				checkParse(t, "kind", turned(b, at, byte(c)), api.ErrStreamKind, at)
				checkParse(t, "kind alone", turned(b, at, byte(c))[:at+1], api.ErrStreamKind, at)
			}
		}
	}
	// A block's frame that is named a foot's has another length than the foot; and the other way round its rows are no block.
	checkParse(t, "a block as foot", turned(b, 27, 'F'), api.ErrStreamFoot, 28)
	checkParse(t, "a foot as block", turned(b, 40, 'B'), api.ErrPairShared, 43)
}

// S3, 3: a block's length that may not be; a foot's that is another one; numbers that are none, where they begin.
func TestLengths(t *testing.T) {
	for _, n := range []int{0, 1, 5} {
		l, spans := parts(t, by(plain(n), 2))
		p, foot := part{kind: []byte{'B'}, body: make([]byte, 9)}, part{kind: []byte{'F'}, body: make([]byte, 9)}
		ahead := laid(l, nil)
		ahead = ahead[:len(ahead)-12-6]
		at := len(ahead) + 1
		for _, size := range []uint64{0, 65536, 65537, 1 << 17, 1 << 31, 1<<32 + 9, 1 << 63, 1<<64 - 1} {
			p.size = number(size)
			checkParse(t, "a block's length", slices.Concat(ahead, p.bytes()), api.ErrStreamLen, at)
			checkParse(t, "a block's length alone", slices.Concat(ahead, p.kind, p.size), api.ErrStreamLen, at)
		}
		right := uint64(len(footText(spans)))
		for _, size := range []uint64{0, 1, right - 1, right + 1, 65536, 1<<32 + right, 1 << 63, 1<<64 - 1} {
			foot.size = number(size)
			checkParse(t, "a foot's length", slices.Concat(ahead, foot.bytes()), api.ErrStreamFoot, at)
			checkParse(t, "a foot's length alone", slices.Concat(ahead, foot.kind, foot.size), api.ErrStreamFoot, at)
		}
		for _, kind := range []byte{'B', 'F'} {
			checkParse(t, "form", slices.Concat(ahead, []byte{kind, 0x8d, 0, 1, 2}), api.ErrVintForm, at)
			checkParse(t, "form", slices.Concat(ahead, []byte{kind, 0x80, 0}), api.ErrVintForm, at)
			checkParse(t, "long", slices.Concat(ahead, []byte{kind}, bytes.Repeat([]byte{255}, 12)), api.ErrVintLong, at)
			checkParse(t, "short", slices.Concat(ahead, []byte{kind, 0x80, 0x80}), api.ErrCursorShort, at)
			checkParse(t, "none", slices.Concat(ahead, []byte{kind}), api.ErrCursorShort, at)
		}
	}
	// A body of the greatest length is read; what is in it is no block.
	great := sealed('B', make([]byte, 65535))
	checkParse(t, "65535", slices.Concat([]byte(head), great.bytes()), api.ErrBlockCount, 12)
	great.sum = []byte{1, 2, 3, 4}
	checkParse(t, "65535", slices.Concat([]byte(head), great.bytes()), api.ErrCrcSum, 12+65535)
}

// S3, 4: a sum that is another one is told ahead of all that is wrong with a body.
func TestSums(t *testing.T) {
	for _, b := range some(t) {
		places := items(b)
		for i := 4; i < len(places)-2; i += 4 {
			body, sum := places[i-1], places[i]
			for at := body; at < sum+4; at++ {
				checkParse(t, "sum", turned(b, at, b[at]^1), api.ErrCrcSum, sum)
				checkParse(t, "sum", turned(b, at, b[at]+128), api.ErrCrcSum, sum)
			}
		}
	}
}

// S3, 5: what is wrong with a block, at its place; then that its first key is not above the last one ahead.
func TestBlockFaults(t *testing.T) {
	l, _ := parts(t, [][]api.Entry{{entry("a", "1"), entry("m", "2")}})
	first := len(head) + len(l[0].bytes())
	for _, c := range []struct {
		what string
		body []byte
		err  api.Errno
		at   int
	}{
		{"no entries", []byte{0}, api.ErrBlockCount, 0},
		{"65 entries", []byte{65, 1, 2}, api.ErrBlockCount, 0},
		{"count's form", []byte{0x81, 0}, api.ErrVintForm, 1},
		{"an entry cut", []byte{1, 0, 1, 5, 'z'}, api.ErrPairShort, 5},
		{"a wrong table", []byte{1, 0, 1, 0, 'z', 2, 0}, api.ErrBlockTable, 5},
		{"a rest", []byte{1, 0, 1, 0, 'z', 1, 0, 7}, api.ErrBlockRest, 7},
		{"an entry's order", []byte{2, 0, 1, 0, 'z', 0, 1, 0, 'y', 1, 0}, api.ErrPairOrder, 5},
		{"a block's own fault, ahead of its place in the order", []byte{1, 0, 1, 0, 'b', 2, 0}, api.ErrBlockTable, 5},
		{"a first key below", built(t, []api.Entry{entry("b", ""), entry("z", "")}).body, api.ErrPairOrder, 0},
		{"the last key ahead itself", built(t, []api.Entry{entry("m", "9")}).body, api.ErrPairOrder, 0},
		{"a first key far below", built(t, []api.Entry{entry("\x00", ""), entry("\x01", "")}).body, api.ErrPairOrder, 0},
	} {
		p := sealed('B', c.body)
		b := laid([]part{l[0], p}, nil)
		checkParse(t, c.what, b, c.err, first+2+c.at)
		got := readAll(source(b))
		if len(got.l) != 2 || len(got.spans) != 1 {
			t.Errorf("%s: %v", c.what, got)
		}
		if c.err != api.ErrPairOrder || c.at > 0 {
			checkParse(t, c.what, laid([]part{p}, nil), c.err, 10+c.at)
		}
	}
	if !hold(t, whole(t, []api.Entry{entry("m", ""), entry("m\x00", "")}, 1)) {
		t.Error("the least key above is refused")
	}
}

// S3, 6: a foot whose sum is right, at its first byte that is another one; each byte of the tail.
func TestFootAndTail(t *testing.T) {
	for n := range 5 {
		l, spans := parts(t, by(plain(n), 2))
		text := footText(spans)
		b := laid(l, text)
		begin := len(b) - 12 - 4 - len(text)
		for at := range text {
			for _, c := range []byte{1, 2, 128, 255} {
				checkParse(t, "foot", laid(l, turned(text, at, text[at]^c)), api.ErrStreamFoot, begin+at)
			}
			both := turned(turned(text, at, text[at]^1), len(text)-1, 99)
			checkParse(t, "foot, twice", laid(l, both), api.ErrStreamFoot, begin+at)
		}
		if n > 2 {
			checkParse(t, "a row too few", laid(l, footText(spans[:1])), api.ErrStreamFoot, begin-1)
		}
		for at := len(b) - 12; at < len(b); at++ {
			for c := 1; c < 256; c++ {
				checkParse(t, "tail", turned(b, at, b[at]^byte(c)), api.ErrStreamTail, len(b)-12)
			}
		}
	}
}

// S3, S5, S6: each byte of a stream as each other byte.
func TestEachByte(t *testing.T) {
	b := whole(t, three(), 2)
	for at := range b {
		for c := range 256 {
			if is := hold(t, turned(b, at, byte(c))); is != (byte(c) == b[at]) {
				t.Fatalf("%02x at %d: %v", c, at, is)
			}
		}
	}
}

// S3, S5, S6, P8.2: any bytes near a stream; what is read is just the stream of its entries and cuts.
func TestAnyBytes(t *testing.T) {
	d := dice(35)
	right := 0
	for range 20000 {
		b := d.near(t)
		if !hold(t, b) {
			continue
		}
		right++
		x := told(b)
		var blocks [][]api.Entry
		for _, s := range x.spans {
			blocks = append(blocks, x.l[:s.Entries])
			x.l = x.l[s.Entries:]
		}
		if again, _ := written(t, blocks); !bytes.Equal(again, b) {
			t.Fatalf("% x was read; its stream is % x", b, again)
		}
	}
	if right < 1000 || right > 15000 {
		t.Errorf("%d right ones", right)
	}
}

// near is a stream, or something like one: pieces turned, with the sums made right or not.
func (d *dice) near(t *testing.T) []byte {
	blocks := d.cut(d.entries(d.below(8)))
	if len(blocks) > 1 && d.below(6) == 0 {
		n := d.below(len(blocks) - 1)
		blocks[n], blocks[n+1] = blocks[n+1], blocks[n]
	}
	l, spans := parts(t, blocks)
	text := footText(spans)
	if len(l) > 0 && d.below(3) == 0 {
		l[d.below(len(l))] = sealed('B', d.bent(l[d.below(len(l))].body))
	}
	if len(l) > 0 && d.below(5) == 0 {
		p := &l[d.below(len(l))]
		p.size = number(uint64(len(p.body) + d.pick(-1, 0, 1, 65536)))
	}
	if len(l) > 0 && d.below(8) == 0 {
		l[d.below(len(l))].kind = []byte{byte(d.pick('B', 'F', 'G', 0))}
	}
	if d.below(4) == 0 {
		text = d.bent(text)
	}
	b := laid(l, text)
	switch d.below(10) {
	case 0:
		b = d.bent(b)
	case 1:
		b = b[:d.below(len(b))]
	}
	return b
}

// bent are bytes of which a few are others, fewer, or more.
func (d *dice) bent(b []byte) []byte {
	b = bytes.Clone(b)
	for range 1 + d.below(2) {
		if len(b) == 0 {
			return b
		}
		at := d.below(len(b))
		switch d.below(4) {
		case 0:
			b = slices.Delete(b, at, at+1)
		case 1:
			b = slices.Insert(b, at, byte(d.below(256)))
		default:
			b[at] = byte(d.pick(0, 1, 2, 8, 64, 127, 128, 255, 'a', d.below(256)))
		}
	}
	return b
}

// P8.4: bits turned within one block's body and sum, all within 32.
func TestBursts(t *testing.T) {
	d := dice(84)
	for _, b := range [][]byte{whole(t, three(), 2), whole(t, d.entries(4), 3)} {
		places := items(b)
		for i := 4; i < len(places)-4; i += 4 {
			first, bits := places[i-1]*8, (places[i]+4-places[i-1])*8
			for bit := range bits {
				for range 20 {
					x := bytes.Clone(b)
					turn := func(n int) { x[(first+n)/8] ^= 1 << ((first + n) % 8) }
					turn(bit)
					width := 1 + d.below(32)
					for n := bit + 1; n < min(bits, bit+width); n++ {
						if d.below(2) == 0 {
							turn(n)
						}
					}
					checkBurst(t, x, places[i])
				}
			}
		}
	}
}

func checkBurst(t *testing.T, b []byte, sum int) {
	t.Helper()
	if l, err, at := stream.Parse(b); len(l) != 0 || err != api.ErrCrcSum || at != sum {
		t.Fatalf("% x: %v, %d, %d", b, l, err, at)
	}
}
