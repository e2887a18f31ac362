package cursor_test

import (
	"bytes"
	"fmt"
	"math"
	"slices"
	"strconv"
	"strings"
	"testing"

	"coppice/api"
	"coppice/cursor"
	"coppice/pipe"
	"coppice/vint"
)

// dice are numbers below a bound, the same ones at each run.
type dice uint64

func (d *dice) below(n int) int {
	x := uint64(*d)*6364136223846793005 + 1442695040888963407
	*d = dice(x)
	return int((x >> 33) % uint64(n))
}

// text are so many bytes, others for each seed.
func text(size int, seed uint64) []byte {
	d := dice(seed)
	b := make([]byte, size)
	for i := range b {
		b[i] = byte(d.below(256))
	}
	return b
}

// turn is what a player does at one call: it lays bytes, or takes some, and tells a number and an error, whatever they are.
type turn struct {
	lay string
	n   int
	err api.Errno
}

func gives(s string, err api.Errno) turn { return turn{s, len(s), err} }

func idle(count int) []turn { return make([]turn, count) }

func turns(parts ...[]turn) []turn { return slices.Concat(parts...) }

// player is a Reader and a Writer that does what its turns say; behind them it tells 999.
type player struct {
	turns []turn
	asked []int    // room of each Read
	hands []string // what each Write was handed
}

const playedOut api.Errno = 999

func (p *player) next() turn {
	if len(p.turns) == 0 {
		return turn{err: playedOut}
	}
	x := p.turns[0]
	p.turns = p.turns[1:]
	return x
}

func (p *player) Read(room []byte) (int, api.Errno) {
	p.asked = append(p.asked, len(room))
	x := p.next()
	copy(room, x.lay)
	return x.n, x.err
}

func (p *player) Write(b []byte) (int, api.Errno) {
	p.hands = append(p.hands, string(b))
	x := p.next()
	return x.n, x.err
}

// say tells an answer and its error in one text; an error's number stands behind a mark.
func say(v any, err api.Errno) string {
	if err == api.OK {
		return fmt.Sprint(v)
	}
	return fmt.Sprintf("%v !%d", v, int(err))
}

// ask does one thing with an In, or an Out, that a text names, and tells the answer: bytes by two digits each.
func ask(c any, call string) string {
	name, arg, _ := strings.Cut(call, " ")
	switch c := c.(type) {
	case *cursor.In:
		return askIn(c, name, arg)
	case *cursor.Out:
		return askOut(c, name, arg)
	}
	return "?"
}

func askIn(c *cursor.In, name, arg string) string {
	switch name {
	case "byte":
		b, err := c.Byte()
		return say(fmt.Sprintf("%02x", b), err)
	case "bytes":
		n, _ := strconv.Atoi(arg)
		b, err := c.Bytes(n)
		return say(fmt.Sprintf("%x", b), err)
	case "number":
		n, err := c.Number()
		return say(n, err)
	case "end":
		end, err := c.End()
		return say(end, err)
	case "at":
		return say(c.At(), api.OK)
	case "err":
		return say(int(c.Err()), api.OK)
	}
	return "?"
}

func askOut(c *cursor.Out, name, arg string) string {
	switch name {
	case "lay":
		return say("", c.Lay([]byte(arg)))
	case "push":
		n, err := c.Push()
		return say(n, err)
	case "flush":
		return say("", c.Flush())
	case "left":
		return say(c.Left(), api.OK)
	case "at":
		return say(c.At(), api.OK)
	case "err":
		return say(int(c.Err()), api.OK)
	}
	return "?"
}

// check asks what stands ahead of each colon, and holds the answer against what stands behind it.
func check(t *testing.T, what string, c any, asks string) {
	t.Helper()
	for line := range strings.SplitSeq(asks, ";") {
		call, want, _ := strings.Cut(strings.TrimSpace(line), ":")
		if is := strings.TrimSpace(ask(c, call)); is != strings.TrimSpace(want) {
			t.Errorf("%s: %s: %q, not %q", what, call, is, strings.TrimSpace(want))
		}
	}
}

func checkAsked(t *testing.T, what string, r *player, want ...int) {
	t.Helper()
	if !slices.Equal(r.asked, want) {
		t.Errorf("%s: asked for %v, not %v", what, r.asked, want)
	}
}

func exampleIn(most int) *cursor.In {
	return cursor.NewIn(pipe.NewSource(api.Feed{Bytes: []byte("\x05\xac\x02abc"), Gives: []int{1, 0, 1}}), most)
}

// The chapter's table, row by row.
func TestExamples(t *testing.T) {
	c := exampleIn(9)
	check(t, "row 1", c, "number: 5; number: 300; at: 3")
	check(t, "row 2", c, "bytes 2: 6162; end: false; byte: 63; end: true")
	check(t, "row 3", c, "byte: 00 !41; byte: 00 !41; err: 41")
	check(t, "row 4", exampleIn(9), "bytes 10: !42; bytes 1: !42")
	check(t, "row 5", exampleIn(9), "bytes -1: !1; byte: 05")
	check(t, "row 6", cursor.NewOut(pipe.NewSink([]int{1, 0}, 0)), "lay ab: ; push: 1; push: 0; push: 1; left: 0")
	o := cursor.NewOut(pipe.NewSink(nil, 2))
	o.Lay(make([]byte, 5000))
	check(t, "row 7", o, "flush: !32; left: 904; lay x: !32")
}

// R1: nil of nil; else one that has read nothing; a bound below 0 counts as 0.
func TestNewIn(t *testing.T) {
	for _, most := range []int{math.MinInt, -1, 0, 1, 5, math.MaxInt} {
		if cursor.NewIn(nil, most) != nil {
			t.Errorf("most %d: not nil", most)
		}
		r := &player{turns: []turn{gives("a", api.OK), gives("b", api.ErrPipeEnd)}}
		c := cursor.NewIn(r, most)
		check(t, "new", c, "at: 0; err: 0")
		checkAsked(t, "new", r)
		if most > 0 {
			check(t, "above 0", c, "byte: 61; at: 1")
			continue
		}
		check(t, "at most 0", c, "bytes 0: ; at: 0; err: 0; byte: 00 !42; err: 42")
		checkAsked(t, "at most 0", r)
	}
}

// R2: each byte is asked for by itself; the bound is met to the byte, and then nobody is called.
func TestByte(t *testing.T) {
	for most := range 5 {
		r := &player{turns: []turn{gives("a", api.OK), {}, gives("b", api.OK), gives("\x00", api.OK), gives("\xff", api.OK)}}
		c := cursor.NewIn(r, most)
		wants := []string{"61", "62", "00", "ff"}
		for i := range most {
			check(t, "byte", c, fmt.Sprintf("at: %d; byte: %s; at: %d; err: 0", i, wants[i], i+1))
		}
		calls := len(r.asked)
		check(t, "bound", c, fmt.Sprintf("byte: 00 !42; at: %d; err: 42; byte: 00 !42", most))
		if len(r.asked) != calls || slices.ContainsFunc(r.asked, func(n int) bool { return n != 1 }) {
			t.Errorf("most %d: asked for %v, %d calls ahead", most, r.asked, calls)
		}
	}
}

// R3: below 0 is ErrArg, and no end; the bound is held against what is left of it, and nothing is asked then.
func TestBytesBound(t *testing.T) {
	for _, n := range []int{math.MinInt, -4096, -1} {
		r := &player{turns: []turn{gives("abc", api.OK)}}
		c := cursor.NewIn(r, 3)
		check(t, "below 0", c, fmt.Sprintf("bytes %d: !1; err: 0; at: 0; bytes %d: !1; bytes 3: 616263; bytes %d: !1; err: 0; at: 3", n, n, n))
		checkAsked(t, "below 0", r, 3)
	}
	for _, n := range []int{3, 4, 4096, math.MaxInt} {
		r := &player{turns: []turn{gives("abc", api.OK), gives("def", api.OK), gives("ghi", api.OK)}}
		c := cursor.NewIn(r, 5)
		check(t, "above", c, fmt.Sprintf("bytes 3: 616263; bytes %d: !42; at: 3; err: 42; bytes 0: !42; bytes -1: !42; bytes 1: !42; at: 3", n))
		checkAsked(t, "above", r, 3)
	}
	r := &player{turns: []turn{gives("abc", api.OK), gives("de", api.OK)}}
	c := cursor.NewIn(r, 5)
	check(t, "met", c, "bytes 3: 616263; bytes 2: 6465; at: 5; bytes 0: ; err: 0; bytes 1: !42; err: 42; at: 5")
	checkAsked(t, "met", r, 3, 2)
}

// R3: no bytes are asked for where none are wanted, not even of a broken reader.
func TestBytesNone(t *testing.T) {
	r := &player{turns: []turn{{err: api.ErrPipeBroken}}}
	c := cursor.NewIn(r, 3)
	check(t, "none", c, "bytes 0: ; at: 0; err: 0; bytes 0: ; err: 0")
	checkAsked(t, "none", r)
	check(t, "one", c, "bytes 1: !32; bytes 0: !32")
}

// R3, Types: the reader is asked for what the item wants still, 4096 at most.
func TestBytesAsks(t *testing.T) {
	whole := string(text(9000, 1))
	r := &player{turns: []turn{gives(whole[:100], 0), gives(whole[100:4196], 0), {}, gives(whole[4196:4200], 0), gives(whole[4200:8296], 0), gives(whole[8296:], 0)}}
	c := cursor.NewIn(r, 9000)
	b, err := c.Bytes(9000)
	if string(b) != whole || err != api.OK || c.At() != 9000 {
		t.Errorf("%d bytes, error %d, at %d", len(b), err, c.At())
	}
	checkAsked(t, "9000", r, 4096, 4096, 4096, 4096, 4096, 704)
	for _, n := range []int{1, 2, 4095, 4096, 4097, 8192, 8193} {
		s := pipe.NewSource(api.Feed{Bytes: []byte(whole)})
		c := cursor.NewIn(s, math.MaxInt)
		b, err := c.Bytes(n)
		if string(b) != whole[:n] || err != api.OK || s.Calls() != (n+4095)/4096 || s.Left() != 9000-n || c.At() != n {
			t.Errorf("Bytes(%d): %d bytes, error %d, %d calls, %d left, at %d", n, len(b), err, s.Calls(), s.Left(), c.At())
		}
	}
}

// R3, P1: as many as a number can say are asked for, and few are there.
func TestBytesHuge(t *testing.T) {
	for _, n := range []int{1 << 40, math.MaxInt - 1, math.MaxInt} {
		r := &player{turns: []turn{gives("ab", api.OK), gives("c", api.ErrPipeEnd)}}
		check(t, "huge", cursor.NewIn(r, math.MaxInt), fmt.Sprintf("bytes %d: !41; at: 0; err: 41", n))
		checkAsked(t, "huge", r, 4096, 4096)
	}
	c := cursor.NewIn(pipe.NewSource(api.Feed{Bytes: []byte("abcd")}), math.MaxInt)
	check(t, "huge behind one", c, fmt.Sprintf("byte: 61; bytes %d: !42; at: 1", math.MaxInt))
	c = cursor.NewIn(pipe.NewSource(api.Feed{Bytes: []byte("abcd")}), math.MaxInt)
	check(t, "huge behind a held one", c, fmt.Sprintf("end: false; bytes %d: !41; at: 0", math.MaxInt))
}

// R4: numbers of all lengths, whatever pieces they come in, one byte asked for at a time.
func TestNumber(t *testing.T) {
	l := []uint64{0, 1, 127, 128, 300, 16383, 16384, 1<<32 - 1, 1 << 35, 1<<63 - 1, 1 << 63, math.MaxUint64}
	b := vint.Join(l...)
	for _, given := range [][]int{nil, {1, 0, 1}, {0, 0, 5, -1}, make([]int, 15)} {
		s := pipe.NewSource(api.Feed{Bytes: b, Gives: given})
		c := cursor.NewIn(s, len(b))
		at := 0
		for _, want := range l {
			n, err := c.Number()
			at += vint.Size(want)
			if n != want || err != api.OK || c.At() != at || s.Left() != len(b)-at {
				t.Fatalf("%d: %d %d, at %d, %d left", want, n, err, c.At(), s.Left())
			}
		}
		check(t, "bound", c, "number: 0 !42; err: 42")
	}
	r := &player{turns: []turn{gives("\xac", 0), {}, gives("\x02", 0)}}
	check(t, "asks", cursor.NewIn(r, 9), "number: 300")
	checkAsked(t, "asks", r, 1, 1, 1)
}

// R4: cut, wrong, above the bound, behind a reader's error: of each byte Byte's errors, then Take's; the item is not read, so At stays.
func TestNumberFails(t *testing.T) {
	long := strings.Repeat("\xff", 9)
	for _, c := range []struct {
		what  string
		b     string
		most  int
		err   api.Errno
		calls int
	}{
		{"cut", "\x05\x80", 9, api.ErrCursorShort, 3},
		{"nothing", "\x05", 9, api.ErrCursorShort, 2},
		{"form", "\x05\x80\x00\x01", 9, api.ErrVintForm, 3},
		{"form, later", "\x05\xff\x80\x00\x01", 9, api.ErrVintForm, 4},
		{"long by its tenth byte", "\x05" + long + "\x02\x01", 99, api.ErrVintLong, 11},
		{"long by more bytes", "\x05" + long + "\x81\x01", 99, api.ErrVintLong, 11},
		{"bound", "\x05\x80\x01", 2, api.ErrCursorMost, 2},
		{"bound at once", "\x05\x80\x01", 1, api.ErrCursorMost, 1},
		{"bound and form", "\x05\x80\x00", 3, api.ErrVintForm, 3},
		{"bound ahead of form", "\x05\x80\x00", 2, api.ErrCursorMost, 2},
	} {
		s := pipe.NewSource(api.Feed{Bytes: []byte(c.b)})
		in := cursor.NewIn(s, c.most)
		check(t, c.what, in, fmt.Sprintf("number: 5; number: 0 !%d; at: 1; err: %d; number: 0 !%d; byte: 00 !%d", c.err, c.err, c.err, c.err))
		if s.Calls() != c.calls {
			t.Errorf("%s: %d calls", c.what, s.Calls())
		}
	}
	r := &player{turns: []turn{gives("\x80", api.ErrPipeBroken), gives("\x80", api.ErrPipeEnd), gives("", api.ErrPipeBroken)}}
	check(t, "reader", cursor.NewIn(r, 9), "number: 0 !32; at: 0; err: 32")
	checkAsked(t, "reader", r, 1, 1, 1)
}

// R4, R2, R3: a whole number that ends at the bound is told.
func TestMetToTheByte(t *testing.T) {
	for most, want := range []string{"number: 0 !42; at: 0", "number: 0 !42; at: 0", "number: 300; at: 2; number: 0 !42; at: 2", "number: 300; byte: 07; number: 0 !42; at: 3"} {
		check(t, fmt.Sprint("most ", most), cursor.NewIn(pipe.NewSource(api.Feed{Bytes: []byte("\xac\x02\x07\x08")}), most), want)
	}
}

// R5: a byte that comes is held: it counts for nothing till the next item has it, and that one is asked for no more.
func TestEndHolds(t *testing.T) {
	for _, c := range []struct{ item, behind, asked string }{
		{"byte: 61; at: 1; byte: 62", "b", "[1 1 1]"},
		{"bytes 1: 61; at: 1; byte: 62", "b", "[1 1 1]"},
		{"bytes 3: 616263; at: 3", "bc", "[1 1 2]"},
		{"number: 97; at: 1; number: 98; at: 2", "b", "[1 1 1]"},
		{"bytes 0: ; at: 0; end: false; byte: 61; at: 1", "b", "[1 1]"},
		{"bytes -1: !1; at: 0; end: false; byte: 61; at: 1", "b", "[1 1]"},
		{"bytes 6: !42; end: false !42; at: 0", "b", "[1 1]"},
	} {
		r := &player{turns: []turn{{}, gives("a", 0), gives(c.behind, 0)}}
		in := cursor.NewIn(r, 5)
		check(t, c.item, in, "end: false; at: 0; err: 0; end: false; end: false; at: 0; "+c.item)
		if fmt.Sprint(r.asked) != c.asked {
			t.Errorf("%s: asked for %v, not %s", c.item, r.asked, c.asked)
		}
	}
	r := &player{turns: []turn{gives("\xac", 0), gives("\x02", 0)}}
	check(t, "number", cursor.NewIn(r, 2), "end: false; number: 300; at: 2")
	checkAsked(t, "number", r, 1, 1)
	r = &player{turns: []turn{gives("a", 0), gives("", api.ErrPipeEnd)}}
	check(t, "cut behind it", cursor.NewIn(r, 9), "end: false; bytes 2: !41; at: 0; end: false !41")
	checkAsked(t, "cut behind it", r, 1, 1)
}

// R5: of the bound nothing is asked, and a held byte is not of it.
func TestEndBound(t *testing.T) {
	for _, most := range []int{-1, 0} {
		check(t, "more", cursor.NewIn(&player{turns: []turn{gives("a", 0)}}, most), "end: false; err: 0; end: false; byte: 00 !42; end: false !42")
		check(t, "none", cursor.NewIn(&player{turns: []turn{gives("", api.ErrPipeEnd), gives("", api.ErrPipeEnd)}}, most), "end: true; end: true; err: 0; byte: 00 !42; end: false !42")
	}
	check(t, "last one", exampleIn(1), "end: false; byte: 05; at: 1; end: false; err: 0; byte: 00 !42; at: 1")
	check(t, "last ones", exampleIn(3), "number: 5; end: false; bytes 2: ac02; end: false; bytes 0: ; bytes 1: !42; at: 3")
	check(t, "all", exampleIn(6), "bytes 6: 05ac02616263; end: true; byte: 00 !42; end: false !42")
}

// R5: at the end it is true, again and again, each time asked, and no end of the In; then the next item is short.
func TestEndTrue(t *testing.T) {
	end := gives("", api.ErrPipeEnd)
	r := &player{turns: []turn{gives("a", api.ErrPipeEnd), end, end, {}, end, end, gives("z", 0)}}
	c := cursor.NewIn(r, 9)
	check(t, "end", c, "byte: 61; end: true; err: 0; end: true; end: true; at: 1; bytes 0: ; byte: 00 !41; err: 41; end: false !41; at: 1")
	checkAsked(t, "end", r, 1, 1, 1, 1, 1, 1)
	r = &player{turns: []turn{end, gives("b", 0)}}
	check(t, "one that goes on", cursor.NewIn(r, 9), "end: true; byte: 62; at: 1")
	r = &player{turns: []turn{end, gives("b", 0)}}
	check(t, "one that goes on", cursor.NewIn(r, 9), "end: true; end: false; byte: 62; at: 1")
	check(t, "told by the reader", cursor.NewIn(&player{turns: []turn{gives("", api.ErrCursorShort)}}, 9), "end: true; err: 0")
}

// R5: a byte with an error is a byte; other errors end the In.
func TestEndFails(t *testing.T) {
	for _, err := range errs() {
		r := &player{turns: []turn{gives("a", err), gives("", err)}}
		c := cursor.NewIn(r, 9)
		want := fmt.Sprintf("end: false; err: 0; byte: 61; at: 1; end: false !%d; err: %d; end: false !%d; byte: 00 !%d", err, err, err, err)
		if err == api.ErrPipeEnd || err == api.ErrCursorShort {
			want = "end: false; err: 0; byte: 61; at: 1; end: true; err: 0"
		}
		check(t, fmt.Sprint("error ", int(err)), c, want)
		checkAsked(t, "fails", r, 1, 1)
	}
	for _, n := range []int{math.MinInt, -1, 2, 3, math.MaxInt} {
		for _, err := range append(errs(), api.OK) {
			r := &player{turns: []turn{{"a", n, err}}}
			check(t, "bad", cursor.NewIn(r, 9), "end: false !34; err: 34; end: false !34")
			checkAsked(t, "bad", r, 1)
		}
	}
	check(t, "15", cursor.NewIn(&player{turns: turns(idle(15), []turn{gives("a", 0)})}, 9), "end: false; byte: 61")
	check(t, "16", cursor.NewIn(&player{turns: turns(idle(16), []turn{gives("a", 0)})}, 9), "end: false !33; err: 33; byte: 00 !33")
	end := []turn{gives("", api.ErrPipeEnd)}
	check(t, "15 and an end, twice", cursor.NewIn(&player{turns: turns(idle(15), end, idle(15), end, idle(16))}, 9), "end: true; end: true; end: false !33")
}

// errs are errors that a reader or a writer may tell, also ones that have other names.
func errs() []api.Errno {
	return []api.Errno{api.ErrPipeEnd, api.ErrPipeBroken, api.ErrPipeIdle, api.ErrPipeBad, api.ErrArg, api.ErrCursorShort, api.ErrCursorMost, api.ErrVintForm, -7, 5000}
}

// Types: the bytes that came are the item's, and if it has all it wants an error is not looked at; else ErrPipeEnd is ErrCursorShort, another error is itself.
func TestBytesWithAnError(t *testing.T) {
	for _, err := range errs() {
		want := err
		if err == api.ErrPipeEnd {
			want = api.ErrCursorShort
		}
		ends := fmt.Sprintf("!%d; at: 0; err: %d; bytes -1: !%d; byte: 00 !%d", want, want, want, want)
		for _, c := range []struct {
			turns []turn
			asks  string
			calls int
		}{
			{[]turn{gives("abc", err), gives("d", 0)}, "bytes 3: 616263; err: 0; byte: 64; at: 4", 2},
			{[]turn{gives("ab", 0), gives("c", err), gives("d", 0)}, "bytes 3: 616263; err: 0; byte: 64; at: 4", 3},
			{[]turn{gives("a", err), gives("b", err)}, "byte: 61; byte: 62; err: 0; at: 2", 2},
			{[]turn{gives("\xac", err), gives("\x02", err)}, "number: 300; err: 0; at: 2", 2},
			{[]turn{gives("ab", err), gives("c", 0)}, "bytes 3: " + ends, 1},
			{[]turn{gives("a", 0), gives("b", err), gives("c", 0)}, "bytes 3: " + ends, 2},
			{[]turn{gives("", err), gives("abc", 0)}, "bytes 3: " + ends, 1},
			{[]turn{gives("", err), gives("abc", 0)}, "byte: 00 " + ends, 1},
			{[]turn{gives("\xac", err), gives("", err), gives("\x02", 0)}, "number: 0 " + ends, 2},
		} {
			r := &player{turns: c.turns}
			check(t, fmt.Sprint("error ", int(err)), cursor.NewIn(r, 9), c.asks)
			if len(r.asked) != c.calls {
				t.Errorf("error %d: %s: asked for %v", err, c.asks, r.asked)
			}
		}
	}
}

// Types: a number below 0 or above what was asked is ErrPipeBad, whatever error came with it.
func TestInBad(t *testing.T) {
	for _, err := range append(errs(), api.OK) {
		for _, n := range []int{math.MinInt, -3, -1, 3, 4, api.MaxAsk, math.MaxInt} {
			r := &player{turns: []turn{gives("a", 0), {"bcd", n, err}, gives("e", 0)}}
			check(t, fmt.Sprint("bytes, number ", n), cursor.NewIn(r, 9), "bytes 3: !34; at: 0; err: 34; bytes 3: !34")
			checkAsked(t, "bytes", r, 3, 2)
		}
		for _, n := range []int{math.MinInt, -1, 2, math.MaxInt} {
			check(t, fmt.Sprint("byte, number ", n), cursor.NewIn(&player{turns: []turn{{"a", n, err}}}, 9), "byte: 00 !34; at: 0; err: 34")
			check(t, fmt.Sprint("number, number ", n), cursor.NewIn(&player{turns: []turn{gives("\x80", 0), {"\x01", n, err}}}, 9), "number: 0 !34; at: 0; err: 34")
		}
	}
	r := &player{turns: []turn{{"x", 4097, api.OK}}}
	check(t, "above what was asked", cursor.NewIn(r, 9000), "bytes 9000: !34")
	checkAsked(t, "above what was asked", r, 4096)
}

// Types: fifteen calls running that give nothing are borne, again and again; sixteen are not; an error in the sixteenth's place is told.
func TestInIdle(t *testing.T) {
	a, b, c := []turn{gives("a", 0)}, []turn{gives("b", 0)}, []turn{gives("c", 0)}
	for _, x := range []struct {
		what  string
		turns []turn
		asks  string
		calls int
	}{
		{"15 thrice in one item", turns(idle(15), a, idle(15), b, idle(15), c), "bytes 3: 616263; err: 0", 48},
		{"15 in each item", turns(idle(15), a, idle(15), b, idle(15), c), "byte: 61; end: false; byte: 62; number: 99; err: 0", 48},
		{"15 in a number", turns(idle(15), []turn{gives("\xac", 0)}, idle(15), []turn{gives("\x02", 0)}), "number: 300", 32},
		{"16 at once", turns(idle(16), a), "byte: 00 !33; err: 33; byte: 00 !33", 16},
		{"16 later", turns(a, idle(16), b), "bytes 2: !33; at: 0; err: 33", 17},
		{"16 in another item", turns(idle(15), a, idle(16), b), "byte: 61; byte: 00 !33; at: 1", 32},
		{"16 in a number", turns([]turn{gives("\xac", 0)}, idle(16), []turn{gives("\x02", 0)}), "number: 0 !33; at: 0", 17},
		{"16th fails", turns(idle(15), []turn{{err: api.ErrPipeBroken}}), "byte: 00 !32", 16},
		{"16th ends", turns(idle(15), []turn{{err: api.ErrPipeEnd}}), "byte: 00 !41", 16},
		{"16th is bad", turns(idle(15), []turn{{n: -1}}), "byte: 00 !34", 16},
		{"16 around an end", turns(idle(10), []turn{{err: api.ErrPipeEnd}}, idle(10), a), "end: true; byte: 61", 22},
	} {
		r := &player{turns: x.turns}
		check(t, x.what, cursor.NewIn(r, 9), x.asks)
		if len(r.asked) != x.calls {
			t.Errorf("%s: %d calls", x.what, len(r.asked))
		}
	}
}

// R6, Types: behind an end every call tells that error, nobody is called, and At and Err stay.
func TestInEnded(t *testing.T) {
	for _, c := range []struct {
		turns []turn
		asks  string
		err   api.Errno
	}{
		{nil, "bytes 99: !42", api.ErrCursorMost},
		{[]turn{gives("", api.ErrPipeEnd)}, "byte: 00 !41", api.ErrCursorShort},
		{[]turn{gives("\x80", 0), gives("\x00", 0)}, "number: 0 !13", api.ErrVintForm},
		{[]turn{gives("", api.ErrArg)}, "byte: 00 !1", api.ErrArg},
		{[]turn{gives("", api.ErrPipeBroken)}, "end: false !32", api.ErrPipeBroken},
		{[]turn{{n: 5}}, "bytes 3: !34", api.ErrPipeBad},
		{idle(16), "bytes 3: !33", api.ErrPipeIdle},
		{[]turn{gives("h", 0)}, "end: false; bytes 99: !42", api.ErrCursorMost},
	} {
		r := &player{turns: turns([]turn{gives("a", 0)}, c.turns)}
		in := cursor.NewIn(r, 40)
		check(t, "ahead", in, "byte: 61; err: 0; "+c.asks)
		calls := len(r.asked)
		r.turns = slices.Repeat([]turn{gives("z", 0)}, 20)
		e := int(c.err)
		for range 2 {
			check(t, c.asks, in, fmt.Sprintf("err: %d; byte: 00 !%d; bytes 1: !%d; bytes 0: !%d; bytes -1: !%d; bytes 99: !%d; number: 0 !%d; end: false !%d; at: 1; err: %d", e, e, e, e, e, e, e, e, e))
		}
		if len(r.asked) != calls {
			t.Errorf("%s: called behind the end", c.asks)
		}
	}
}

// R7: nil of nil; else one with nothing that waits, and nobody is called for nothing.
func TestNewOut(t *testing.T) {
	if cursor.NewOut(nil) != nil {
		t.Error("not nil")
	}
	w := &player{turns: []turn{{n: -1, err: api.ErrPipeBroken}}}
	c := cursor.NewOut(w)
	check(t, "new", c, "left: 0; at: 0; err: 0; push: 0; flush: ; lay: ; push: 0; flush: ; left: 0; at: 0; err: 0")
	if len(w.hands) != 0 {
		t.Errorf("called: %q", w.hands)
	}
}

// R7, R8: what is laid waits behind what does; each push hands on the first bytes in one call.
func TestPush(t *testing.T) {
	w := &player{turns: []turn{{n: 1}, {n: 0}, {n: 3}, {n: 2}, {n: 1}}}
	c := cursor.NewOut(w)
	check(t, "push", c, "lay ab: ; left: 2; at: 0; push: 1; left: 1; at: 1; lay cd: ; left: 3; push: 0; left: 3; at: 1; push: 3; left: 0; at: 4; push: 0; lay ef: ; push: 2; at: 6; lay: ; push: 0; lay g: ; push: 1; left: 0; at: 7; err: 0")
	if want := []string{"ab", "bcd", "bcd", "ef", "g"}; !slices.Equal(w.hands, want) {
		t.Errorf("%q", w.hands)
	}
}

// R7: MaxAsk at most are handed on at once.
func TestPushMost(t *testing.T) {
	for _, size := range []int{4095, 4096, 4097, 8192, 9000} {
		b := text(size, 3)
		s := pipe.NewSink(nil, 0)
		c := cursor.NewOut(s)
		if err := c.Lay(b); err != api.OK {
			t.Error(err)
		}
		for at := 0; at < size; {
			n, err := c.Push()
			if n != min(4096, size-at) || err != api.OK {
				t.Fatalf("%d of %d: %d %d", at, size, n, err)
			}
			at += n
			if c.At() != at || c.Left() != size-at || !bytes.Equal(s.Bytes(), b[:at]) {
				t.Errorf("%d of %d: at %d, %d left", at, size, c.At(), c.Left())
			}
		}
	}
	w := &player{turns: []turn{{n: 100}, {n: 4096}, {n: 4096}, {n: 708}}}
	c := cursor.NewOut(w)
	c.Lay(make([]byte, 9000))
	check(t, "some", c, "flush: ; left: 0; at: 9000")
	var sizes []int
	for _, h := range w.hands {
		sizes = append(sizes, len(h))
	}
	if !slices.Equal(sizes, []int{4096, 4096, 4096, 708}) {
		t.Error(sizes)
	}
}

// R7: a writer's error ends it, also where all was taken; what it took with it waits no more, and is told and counted.
func TestPushFails(t *testing.T) {
	for _, err := range errs() {
		for n := range 4 {
			w := &player{turns: []turn{{n: 2}, {n: n, err: err}, {n: 1}}}
			c := cursor.NewOut(w)
			check(t, fmt.Sprint("error ", int(err)), c, fmt.Sprintf("lay abcde: ; push: 2; push: %d !%d; left: %d; at: %d; err: %d; lay x: !%d; left: %d; push: 0 !%d; flush: !%d; lay: !%d; at: %d; left: %d; err: %d", n, err, 3-n, 2+n, err, err, 3-n, err, err, err, 2+n, 3-n, err))
			if !slices.Equal(w.hands, []string{"abcde", "cde"}) {
				t.Errorf("%q", w.hands)
			}
		}
	}
}

// R7: a number below 0 or above what was handed is 0 and ErrPipeBad, whatever error came with it, and nothing waits less.
func TestPushBad(t *testing.T) {
	for _, err := range append(errs(), api.OK) {
		for _, n := range []int{math.MinInt, -2, -1, 3, 4, 5, math.MaxInt} {
			w := &player{turns: []turn{{n: 2}, {n: n, err: err}, {n: 1}}}
			check(t, fmt.Sprint("number ", n), cursor.NewOut(w), "lay abcd: ; push: 2; push: 0 !34; left: 2; at: 2; err: 34; push: 0 !34; flush: !34; lay x: !34; left: 2")
			if len(w.hands) != 2 {
				t.Errorf("%q", w.hands)
			}
		}
		w := &player{turns: []turn{{n: 4097, err: err}}}
		c := cursor.NewOut(w)
		c.Lay(make([]byte, 5000))
		check(t, "above what was handed", c, "flush: !34; left: 5000; at: 0")
	}
}

// R7: fifteen calls running that take nothing are borne, again and again; sixteen are not, over pushes, flushes and lays alike; an error in the sixteenth's place is told.
func TestOutIdle(t *testing.T) {
	one := []turn{{n: 1}}
	for _, x := range []struct {
		what  string
		turns []turn
		asks  string
		calls int
	}{
		{"15 thrice", turns(idle(15), one, idle(15), one, idle(15), one), "flush: ; left: 0; at: 3; err: 0", 48},
		{"16 at once", turns(idle(16), one), "flush: !33; left: 3; at: 0; err: 33; push: 0 !33", 16},
		{"16 later", turns(idle(15), one, idle(16), one), "flush: !33; left: 2; at: 1; err: 33", 32},
		{"16 by pushes", turns(idle(16), one), strings.Repeat("push: 0; ", 15) + "err: 0; push: 0 !33; err: 33; left: 3", 16},
		{"16 around a lay", turns(idle(16), one), strings.Repeat("push: 0; ", 10) + "lay x: ; " + strings.Repeat("push: 0; ", 5) + "push: 0 !33; left: 4", 16},
		{"16 by pushes and a flush", turns(idle(16), one), strings.Repeat("push: 0; ", 10) + "lay: ; flush: !33; left: 3", 16},
		{"15, and then one", turns(idle(15), one, idle(2), one, one), strings.Repeat("push: 0; ", 15) + "push: 1; flush: ; at: 3", 20},
		{"over items", turns(one, one, idle(10), one, idle(15), one, idle(16)), "flush: ; lay x: ; flush: ; lay y: ; flush: !33; at: 4", 45},
		{"16th fails", turns(idle(15), []turn{{err: api.ErrPipeBroken}}), "flush: !32; left: 3", 16},
		{"16th is bad", turns(idle(15), []turn{{n: 4}}), "flush: !34; left: 3", 16},
	} {
		w := &player{turns: x.turns}
		check(t, x.what, cursor.NewOut(w), "lay abc: ; "+x.asks)
		if len(w.hands) != x.calls {
			t.Errorf("%s: %d calls", x.what, len(w.hands))
		}
	}
}

// R7: Flush goes up to the first error, at once or later.
func TestFlush(t *testing.T) {
	b := text(20000, 4)
	for fail := range 6 {
		s := pipe.NewSink([]int{4096, 1000}, fail)
		c := cursor.NewOut(s)
		c.Lay(b)
		want, took := api.ErrPipeBroken, []int{20000, 0, 4096, 5096, 9192, 13288}[fail]
		if fail == 0 {
			want = api.OK
		}
		if err := c.Flush(); err != want || c.Err() != want || c.At() != took || c.Left() != 20000-took || !bytes.Equal(s.Bytes(), b[:took]) {
			t.Errorf("fail %d: error %d, at %d, %d left", fail, err, c.At(), c.Left())
		}
		calls := s.Calls()
		if err := c.Flush(); err != want || s.Calls() != calls {
			t.Errorf("fail %d: error %d, %d calls", fail, err, s.Calls()-calls)
		}
	}
}

// item is one thing that is laid, and read again.
type item struct {
	kind  int // 0: a byte, 1: bytes, 2: a number
	bytes []byte
	n     uint64
}

func someItems(d *dice, count, long int) []item {
	l := make([]item, count)
	for i := range l {
		l[i].kind = d.below(3)
		switch l[i].kind {
		case 0:
			l[i].bytes = text(1, uint64(i))
		case 1:
			l[i].bytes = text(d.below(long), uint64(i))
		case 2:
			l[i].n = uint64(d.below(1<<30)) << d.below(34) >> d.below(30)
			l[i].bytes = vint.Bytes(l[i].n)
		}
	}
	return l
}

// readItem reads one item, and tells whether it is the one that was laid.
func readItem(c *cursor.In, x item) (bool, api.Errno) {
	switch x.kind {
	case 0:
		b, err := c.Byte()
		return b == x.bytes[0], err
	case 1:
		b, err := c.Bytes(len(x.bytes))
		return bytes.Equal(b, x.bytes), err
	}
	n, err := c.Number()
	return n == x.n, err
}

func somePieces(d *dice) []int {
	l := make([]int, d.below(40))
	for i := range l {
		l[i] = []int{0, 1, 2, 3, 7, 100, -1, math.MinInt, math.MaxInt, 0, 1, 1}[d.below(12)]
	}
	return l
}

// layAndRead lays items through a sink, flushes now and then, and reads them from a source of what it took; it tells how many came back, and the error that was told, if one was.
func layAndRead(t *testing.T, d *dice, l []item, fails bool) (int, api.Errno) {
	t.Helper()
	atWrite, atRead := 0, 0
	if fails {
		atWrite, atRead = d.below(30), d.below(60)
	}
	s := pipe.NewSink(somePieces(d), atWrite)
	out := cursor.NewOut(s)
	whole := 0
	for _, x := range l {
		if err := out.Lay(x.bytes); err != api.OK {
			return 0, err
		}
		whole += len(x.bytes)
		if d.below(4) == 0 {
			out.Push()
		}
		if d.below(9) == 0 {
			out.Flush()
		}
	}
	if err := out.Flush(); err != api.OK {
		return 0, err
	}
	if out.At() != whole || out.Left() != 0 || len(s.Bytes()) != whole {
		t.Fatalf("at %d, %d left, %d taken of %d", out.At(), out.Left(), len(s.Bytes()), whole)
	}
	return readBack(t, d, l, api.Feed{Bytes: s.Bytes(), Gives: somePieces(d), Fail: atRead, Eager: d.below(2) == 0})
}

func readBack(t *testing.T, d *dice, l []item, x api.Feed) (int, api.Errno) {
	t.Helper()
	c := cursor.NewIn(pipe.NewSource(x), len(x.Bytes))
	at := 0
	for i, x := range l {
		if d.below(3) == 0 && len(x.bytes) > 0 {
			if end, err := c.End(); end || err != api.OK {
				return i, err
			}
		}
		same, err := readItem(c, x)
		if err != api.OK {
			return i, err
		}
		at += len(x.bytes)
		if !same || c.At() != at {
			t.Fatalf("item %d is another one, or at %d, not %d", i, c.At(), at)
		}
	}
	end, err := c.End()
	if !end && err == api.OK {
		t.Fatal("more came back")
	}
	return len(l), err
}

// P4.2: what is laid and flushed comes back, whatever pieces it goes by.
func TestThereAndBack(t *testing.T) {
	d := dice(1)
	for range 600 {
		l := someItems(&d, d.below(40), 60)
		if n, err := layAndRead(t, &d, l, false); n != len(l) && err != api.ErrPipeIdle {
			t.Fatalf("%d of %d, error %d", n, len(l), err)
		}
	}
	for range 5 {
		l := someItems(&d, 9, 30000)
		if n, err := layAndRead(t, &d, l, false); n != len(l) && err != api.ErrPipeIdle {
			t.Fatalf("%d of %d, error %d", n, len(l), err)
		}
	}
}

// P4.2: where a sink or a source fails an error is told, and what came back is what was laid.
func TestThereAndBackFails(t *testing.T) {
	d := dice(2)
	told := map[api.Errno]int{}
	for range 2000 {
		_, err := layAndRead(t, &d, someItems(&d, d.below(20), 30), true)
		told[err]++
	}
	if told[api.OK] < 50 || told[api.ErrPipeBroken] < 50 || told[api.ErrPipeBroken]+told[api.ErrPipeIdle]+told[api.OK] != 2000 {
		t.Errorf("%v", told)
	}
}

// P4.3: what an In has left in a source is what stands behind its items, but for one byte that End holds.
func TestNoMoreThanAsked(t *testing.T) {
	d := dice(3)
	for range 400 {
		l := someItems(&d, d.below(20)+1, 9000)
		var whole []byte
		for _, x := range l {
			whole = append(whole, x.bytes...)
		}
		whole = append(whole, "behind"...)
		s := pipe.NewSource(api.Feed{Bytes: whole, Gives: []int{d.below(4), 1, d.below(9), 0, -1, d.below(3), 2}, Eager: d.below(2) == 0})
		c := cursor.NewIn(s, math.MaxInt)
		at, held := 0, 0
		for i, x := range l {
			if d.below(2) == 0 {
				c.End()
				held = 1
			}
			if same, err := readItem(c, x); !same || err != api.OK {
				t.Fatalf("item %d: error %d", i, err)
			}
			at += len(x.bytes)
			if len(x.bytes) > 0 {
				held = 0
			}
			if s.Left() != len(whole)-at-held || c.At() != at {
				t.Fatalf("item %d: %d left behind %d of %d, %d held", i, s.Left(), at, len(whole), held)
			}
		}
		if rest := cursor.NewIn(s, 99); held == 0 {
			check(t, "behind", rest, "bytes 6: 626568696e64; end: true")
		}
	}
}

// wanted is a slow In of the test's own: it follows the chapter's words one by one, and tells what each call answers.
type wanted struct {
	turns      []turn
	most       int
	at, idle   int
	err        api.Errno
	held       bool
	heldByte   byte
	asked      []int
	itemsBytes int // of the item that is read now
}

// more reads n bytes to those that an item has.
func (m *wanted) more(has []byte, n int) ([]byte, api.Errno) {
	for len(has) < n {
		size := min(4096, n-len(has))
		m.asked = append(m.asked, size)
		x := turn{err: playedOut}
		if len(m.turns) > 0 {
			x = m.turns[0]
			m.turns = m.turns[1:]
		}
		if x.n < 0 || x.n > size {
			return nil, api.ErrPipeBad
		}
		room := make([]byte, size)
		copy(room, x.lay)
		has = append(has, room[:x.n]...)
		if x.n == 0 && x.err == api.OK {
			m.idle++
		} else {
			m.idle = 0
		}
		switch {
		case len(has) == n:
		case x.err == api.ErrPipeEnd:
			return nil, api.ErrCursorShort
		case x.err != api.OK:
			return nil, x.err
		case m.idle == 16:
			return nil, api.ErrPipeIdle
		}
	}
	return has, api.OK
}

func (m *wanted) read(n int) ([]byte, api.Errno) {
	if n > m.most-m.at-m.itemsBytes {
		return nil, api.ErrCursorMost
	}
	var has []byte
	if n > 0 && m.held {
		has, m.held = []byte{m.heldByte}, false
	}
	b, err := m.more(has, n)
	m.itemsBytes += len(b)
	return b, err
}

func (m *wanted) item(call string, n int) (string, api.Errno) {
	switch call {
	case "byte":
		b, err := m.read(1)
		if err != api.OK {
			return "00", err
		}
		return fmt.Sprintf("%02x", b), err
	case "bytes":
		b, err := m.read(n)
		return fmt.Sprintf("%x", b), err
	}
	var all []byte
	for {
		b, err := m.read(1)
		if err != api.OK {
			return "0", err
		}
		all = append(all, b...)
		number, _, err := vint.Read(all, 0)
		if err != api.ErrVintShort {
			return fmt.Sprint(number), err
		}
	}
}

func (m *wanted) end() (string, api.Errno) {
	if m.held {
		return "false", api.OK
	}
	b, err := m.more(nil, 1)
	if err == api.ErrCursorShort {
		return "true", api.OK
	}
	if err == api.OK {
		m.held, m.heldByte = true, b[0]
	}
	return "false", err
}

func (m *wanted) answer(call string, n int) string {
	zero := map[string]string{"byte": "00", "bytes": "", "number": "0", "end": "false"}[call]
	if m.err != api.OK {
		return say(zero, m.err)
	}
	if call == "bytes" && n < 0 {
		return say(zero, api.ErrArg)
	}
	if call == "end" {
		is, err := m.end()
		m.err = err
		return say(is, err)
	}
	m.itemsBytes = 0
	is, err := m.item(call, n)
	m.err = err
	if err != api.OK {
		return say(zero, err)
	}
	m.at += m.itemsBytes
	return say(is, err)
}

func someTurns(d *dice, count int) []turn {
	l := make([]turn, count)
	for i := range l {
		switch d.below(8) {
		case 0:
			l[i] = turn{}
		case 1:
			l[i] = gives(string(text(d.below(3), uint64(d.below(99)))), errs()[d.below(len(errs()))])
		case 2:
			l[i] = turn{lay: "\x80", n: []int{-1, 2, 1, 1, 1, 1, 1, 1}[d.below(8)]}
		default:
			l[i] = gives(string(text([]int{1, 1, 1, 1, 2, 3}[d.below(6)], uint64(d.below(99)))), 0)
		}
		if len(l[i].lay) > 0 && d.below(3) == 0 {
			l[i].lay = "\xac\x02\x01"[d.below(3):]
			l[i].n = min(l[i].n, len(l[i].lay))
		}
	}
	return l
}

// R2 to R6: Ins over readers of all kinds answer what the chapter's words say one by one, and ask for as much.
func TestInByWords(t *testing.T) {
	d := dice(4)
	ended := map[api.Errno]int{}
	for round := range 20000 {
		script := someTurns(&d, d.below(30))
		most := []int{-1, 0, 1, 3, 8, 20, 99, math.MaxInt}[d.below(8)]
		r := &player{turns: script}
		c, m := cursor.NewIn(r, most), &wanted{turns: script, most: max(0, most)}
		for range d.below(20) + 1 {
			call, n := []string{"byte", "bytes", "number", "end"}[d.below(4)], []int{-1, 0, 1, 1, 2, 3, 5, 30}[d.below(8)]
			if is, want := askIn(c, call, fmt.Sprint(n)), m.answer(call, n); is != want {
				t.Fatalf("round %d: %v, most %d: %s %d: %q, not %q", round, script, most, call, n, is, want)
			}
			if c.At() != m.at || c.Err() != m.err || !slices.Equal(r.asked, m.asked) {
				t.Fatalf("round %d: %v, most %d: %s %d: at %d %d, error %d %d, asked %v %v", round, script, most, call, n, c.At(), m.at, c.Err(), m.err, r.asked, m.asked)
			}
		}
		ended[c.Err()]++
	}
	for _, err := range []api.Errno{api.OK, api.ErrCursorShort, api.ErrCursorMost, api.ErrPipeBad, api.ErrPipeBroken, api.ErrVintForm} {
		if ended[err] < 100 {
			t.Errorf("error %d came %d times", err, ended[err])
		}
	}
}

// Types: a reader that tells bytes which it did not lay shows none of an earlier call.
func TestRoom(t *testing.T) {
	r := &player{turns: []turn{gives("abcd", 0), {"x", 4, api.OK}, {"", 1, api.OK}, {"", 1, api.OK}}}
	check(t, "room", cursor.NewIn(r, 99), "bytes 4: 61626364; bytes 4: 78000000; byte: 00; end: false; byte: 00")
}

// meddler keeps all that it is handed, and writes over it later.
type meddler struct {
	feed  *pipe.Source
	taken []byte
	kept  [][]byte
}

func (m *meddler) scribble() {
	for _, b := range m.kept {
		scribble(b)
	}
}

func (m *meddler) Read(p []byte) (int, api.Errno) {
	m.scribble()
	m.kept = append(m.kept, p)
	n, err := m.feed.Read(p)
	for i := range p[n:cap(p)] {
		p[:cap(p)][n+i] = '?'
	}
	return n, err
}

func (m *meddler) Write(p []byte) (int, api.Errno) {
	m.scribble()
	m.kept = append(m.kept, p)
	m.taken = append(m.taken, p[0])
	scribble(p)
	return 1, api.OK
}

// P3: readers and writers that keep and change what they are handed don't change what was told, nor what waits.
func TestMeddlers(t *testing.T) {
	b := text(100, 7)
	m := &meddler{feed: pipe.NewSource(api.Feed{Bytes: b, Gives: []int{2, 0, 3}})}
	c := cursor.NewIn(m, 999)
	var pieces [][]byte
	for i := range 10 {
		if i%2 == 0 {
			c.End()
		}
		piece, _ := c.Bytes(10)
		pieces = append(pieces, piece)
		m.scribble()
	}
	if !bytes.Equal(slices.Concat(pieces...), b) {
		t.Error("what was told is changed")
	}
	c = cursor.NewIn(&meddler{feed: pipe.NewSource(api.Feed{Bytes: []byte("abc")})}, 999)
	check(t, "held", c, "end: false; end: false; byte: 61; bytes 2: 6263; end: true")
	w := &meddler{}
	out := cursor.NewOut(w)
	out.Lay(b[:60])
	out.Push()
	out.Lay(b[60:])
	if err := out.Flush(); err != api.OK || !bytes.Equal(w.taken, b) {
		t.Errorf("%q", w.taken)
	}
}

// P3: what is laid stays as it was, its spare room too, and is not kept.
func TestLaidIn(t *testing.T) {
	whole := []byte("abcdefgh")
	s := pipe.NewSink([]int{1}, 0)
	c := cursor.NewOut(s)
	c.Lay(whole[:3:8])
	c.Lay(whole[4:6:8])
	c.Push()
	c.Lay(nil)
	c.Lay([]byte{})
	c.Lay(whole[:1])
	if string(whole) != "abcdefgh" {
		t.Errorf("%q", whole)
	}
	scribble(whole)
	if c.Flush() != api.OK || string(s.Bytes()) != "abcefa" {
		t.Errorf("%q", s.Bytes())
	}
}

// P3: what Bytes tells is new memory, its spare room too.
func TestComesOutNew(t *testing.T) {
	b := text(9000, 8)
	for size := 1; size < 200; size++ {
		c := cursor.NewIn(pipe.NewSource(api.Feed{Bytes: b, Gives: []int{1, 2, 3, 1, 1, 7}}), 9000)
		var pieces [][]byte
		for i := range 5 {
			if i%2 == 1 {
				c.End()
			}
			piece, err := c.Bytes(size)
			if want := b[i*size : (i+1)*size]; err != api.OK || !bytes.Equal(piece, want) {
				t.Fatalf("size %d, piece %d: %x, not %x", size, i, piece, want)
			}
			pieces = append(pieces, piece)
		}
		for i, piece := range pieces {
			if !bytes.Equal(piece, b[i*size:(i+1)*size]) {
				t.Fatalf("size %d: piece %d is changed", size, i)
			}
			scribble(piece)
		}
		if next, err := c.Bytes(size); err != api.OK || !bytes.Equal(next, b[5*size:6*size]) {
			t.Fatalf("size %d: what comes next is changed", size)
		}
	}
}

// P3: Ins and Outs have nothing in common.
func TestApart(t *testing.T) {
	a, b := exampleIn(9), exampleIn(9)
	check(t, "one", a, "number: 5; end: false; bytes 99: !42")
	check(t, "other", b, "at: 0; err: 0; number: 5; byte: ac")
	check(t, "one", a, "at: 1; err: 42")
	v, w := cursor.NewOut(pipe.NewSink(nil, 1)), cursor.NewOut(pipe.NewSink(nil, 0))
	check(t, "one", v, "lay ab: ; flush: !32")
	check(t, "other", w, "left: 0; err: 0; lay a: ; flush: ; at: 1")
}

// scribble writes over a list and its spare room.
func scribble(b []byte) {
	b = b[:cap(b)]
	for i := range b {
		b[i] = '#'
	}
}
