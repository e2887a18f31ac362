package pipe_test

import (
	"bytes"
	"math"
	"slices"
	"testing"

	"coppice/api"
	"coppice/pipe"
)

// dice are numbers below a bound, the same ones at each run.
type dice uint64

func (d *dice) below(n int) int {
	x := uint64(*d)*6364136223846793005 + 1442695040888963407
	*d = dice(x)
	return int((x >> 33) % uint64(n))
}

// text are so many bytes, others for each seed.
func text(size int, seed uint64) []byte {
	d := dice(seed)
	b := make([]byte, size)
	for i := range b {
		b[i] = byte(d.below(256))
	}
	return b
}

// bounds are what a list of Gives, or of takes, may have in it.
func bounds() []int {
	return []int{0, 1, 2, 3, 7, 100, -1, -2, math.MinInt, math.MaxInt}
}

func someBounds(d *dice) []int {
	all := bounds()
	l := make([]int, d.below(8))
	for i := range l {
		l[i] = all[d.below(len(all))]
	}
	return l
}

// fails are numbers of calls at which something may fail.
func fails() []int { return []int{math.MinInt, -1, 0, 1, 2, 3, 4, 5, 9, 30, math.MaxInt} }

// wrongSizes are those that may not be.
func wrongSizes() []int {
	return []int{math.MinInt, -4096, -1, 0, api.MaxAsk + 1, 2 * api.MaxAsk, 1 << 32, math.MaxInt}
}

func exampleFeed(eager bool) api.Feed {
	return api.Feed{Bytes: []byte("abcdef"), Gives: []int{2, 0, 3}, Eager: eager}
}

// got is what one call gave, or one turn of a range.
type got struct {
	bytes string
	err   api.Errno
}

func read(s *pipe.Source, size int) got {
	p := make([]byte, size)
	n, err := s.Read(p)
	return got{string(p[:n]), err}
}

func chunks(r pipe.Reader, size int) []got {
	var l []got
	for b, err := range pipe.Chunks(r, size) {
		l = append(l, got{string(b), err})
	}
	return l
}

func checkGot(t *testing.T, what any, l, want []got) {
	t.Helper()
	if !slices.Equal(l, want) {
		t.Errorf("%v: %v, not %v", what, l, want)
	}
}

func checkCopy(t *testing.T, w pipe.Writer, r pipe.Reader, size int, want int, wantErr api.Errno) {
	t.Helper()
	if n, err := pipe.Copy(w, r, size); n != want || err != wantErr {
		t.Errorf("Copy of size %d: %d %d, not %d %d", size, n, err, want, wantErr)
	}
}

// The chapter's table, row by row.
func TestExamples(t *testing.T) {
	for _, eager := range []bool{false, true} {
		ends := []got{{"f", api.OK}, {"", api.ErrPipeEnd}}
		atOnce := ends
		if eager {
			ends[0].err = api.ErrPipeEnd
			atOnce = ends[:1]
		}
		s := pipe.NewSource(exampleFeed(eager))
		var l []got
		for range 5 {
			l = append(l, read(s, 4))
		}
		checkGot(t, "Read", l, append([]got{{"ab", 0}, {"", 0}, {"cde", 0}}, ends...))
		checkGot(t, "Chunks", chunks(pipe.NewSource(exampleFeed(eager)), 4), append([]got{{"ab", 0}, {"cde", 0}}, atOnce...))
		w := pipe.NewSink([]int{1, 0}, 4)
		checkCopy(t, w, pipe.NewSource(exampleFeed(eager)), 4, 2, api.ErrPipeBroken)
		if string(w.Bytes()) != "ab" || w.Calls() != 4 {
			t.Errorf("%q in %d calls", w.Bytes(), w.Calls())
		}
	}
	w := pipe.NewSink([]int{1, 0}, 4)
	for i, c := range []struct {
		handed string
		n      int
		err    api.Errno
	}{{"xy", 1, 0}, {"y", 0, 0}, {"y", 1, 0}, {"z", 0, api.ErrPipeBroken}, {"z", 0, api.ErrPipeBroken}} {
		if n, err := w.Write([]byte(c.handed)); n != c.n || err != c.err {
			t.Errorf("write %d: %d %d", i+1, n, err)
		}
	}
	if string(w.Bytes()) != "xy" {
		t.Errorf("%q", w.Bytes())
	}
	r := pipe.NewSource(exampleFeed(false))
	checkCopy(t, pipe.NewSink(nil, 0), r, 0, 0, api.ErrArg)
	checkCopy(t, nil, r, 1, 0, api.ErrArg)
}

// F1, F3: a new source has given nothing, and wasn't called.
func TestNewSource(t *testing.T) {
	for _, size := range []int{0, 1, 6, 5000} {
		for _, fail := range fails() {
			s := pipe.NewSource(api.Feed{Bytes: text(size, 1), Gives: bounds(), Fail: fail})
			if s.Calls() != 0 || s.Left() != size {
				t.Errorf("%d bytes, fail %d: %d calls, %d left", size, fail, s.Calls(), s.Left())
			}
		}
	}
}

// expectedRead tells by the words of F2 what call k, with so much room, gives of the bytes that are left.
func expectedRead(x api.Feed, k int, left []byte, room int) (int, api.Errno) {
	if x.Fail >= 1 && k >= x.Fail {
		return 0, api.ErrPipeBroken
	}
	if len(left) == 0 {
		return 0, api.ErrPipeEnd
	}
	n := len(left)
	if n > room {
		n = room
	}
	if k <= len(x.Gives) {
		if n > x.Gives[k-1] {
			n = x.Gives[k-1]
		}
		if n < 0 {
			n = 0
		}
	}
	if x.Eager && n == len(left) {
		return n, api.ErrPipeEnd
	}
	return n, api.OK
}

// F2, F3, P3.2: feeds of all kinds, read into rooms of all sizes: what was given is a beginning, Left are behind it, nothing else of the room is touched.
func TestRead(t *testing.T) {
	d := dice(1)
	for _, fail := range fails() {
		for seed := range 200 {
			x := api.Feed{Bytes: text(d.below(12), uint64(seed)), Gives: someBounds(&d), Fail: fail, Eager: seed%2 == 0}
			s := pipe.NewSource(x)
			given := 0
			for k := 1; k <= 14; k++ {
				room := bytes.Repeat([]byte{'.'}, d.below(6)+4)
				p := room[2 : 2+d.below(len(room)-3)]
				want, wantErr := expectedRead(x, k, x.Bytes[given:], len(p))
				expected := bytes.Clone(room)
				copy(expected[2:], x.Bytes[given:given+want])
				n, err := s.Read(p)
				given += want
				if n != want || err != wantErr || !bytes.Equal(room, expected) {
					t.Fatalf("%v, call %d of %d: %d %d %q, not %d %d %q", x, k, len(p), n, err, room, want, wantErr, expected)
				}
				if s.Calls() != k || s.Left() != len(x.Bytes)-given {
					t.Fatalf("%v, call %d: %d calls, %d left of %d", x, k, s.Calls(), s.Left(), len(x.Bytes)-given)
				}
			}
		}
	}
}

// F2: it breaks at call Fail, and stays broken; a Fail below 1 is none.
func TestSourceFails(t *testing.T) {
	for _, fail := range fails() {
		s := pipe.NewSource(api.Feed{Bytes: []byte("abc"), Fail: fail})
		for k := 1; k <= 40; k++ {
			want := got{"", api.ErrPipeEnd}
			if k <= 3 {
				want = got{string("abc"[k-1]), api.OK}
			}
			if fail >= 1 && k >= fail {
				want = got{"", api.ErrPipeBroken}
			}
			if g := read(s, 1); g != want {
				t.Errorf("fail %d, call %d: %v, not %v", fail, k, g, want)
			}
		}
	}
}

// F2: that it is broken goes ahead of that nothing is left.
func TestSourceFailsEmpty(t *testing.T) {
	for _, eager := range []bool{false, true} {
		s := pipe.NewSource(api.Feed{Fail: 2, Eager: eager})
		for k, want := range []api.Errno{api.ErrPipeEnd, api.ErrPipeBroken, api.ErrPipeBroken} {
			if g := read(s, 1); g != (got{"", want}) {
				t.Errorf("call %d: %v", k+1, g)
			}
		}
	}
}

// F2: without room nothing is given, but the call counts; Eager or not, bytes are left.
func TestReadNoRoom(t *testing.T) {
	for _, eager := range []bool{false, true} {
		for _, room := range [][]byte{nil, {}, make([]byte, 0, 8)} {
			s := pipe.NewSource(api.Feed{Bytes: []byte("a"), Gives: []int{1, 0}, Eager: eager})
			for k := 1; k <= 3; k++ {
				if n, err := s.Read(room); n != 0 || err != api.OK || s.Calls() != k || s.Left() != 1 {
					t.Errorf("call %d: %d %d", k, n, err)
				}
			}
			if room = room[:cap(room)]; !bytes.Equal(room, make([]byte, len(room))) {
				t.Errorf("spare room: %q", room)
			}
			read(s, 1)
			if n, err := s.Read(room[:0]); n != 0 || err != api.ErrPipeEnd {
				t.Errorf("behind the end: %d %d", n, err)
			}
		}
	}
}

// F2: Eager tells the end with the last bytes, and nowhere ahead; without bytes both tell it at once.
func TestEager(t *testing.T) {
	for size := range 9 {
		for piece := 1; piece < 10; piece++ {
			x := api.Feed{Bytes: text(size, 3), Eager: true}
			s := pipe.NewSource(x)
			for {
				g := read(s, piece)
				if (g.err == api.ErrPipeEnd) != (s.Left() == 0) || g.err != api.OK && g.err != api.ErrPipeEnd {
					t.Errorf("%d bytes by %d: %v, %d left", size, piece, g, s.Left())
				}
				if g.err != api.OK {
					break
				}
			}
			if want := max(1, (size+piece-1)/piece); s.Calls() != want {
				t.Errorf("%d bytes by %d: %d calls, not %d", size, piece, s.Calls(), want)
			}
		}
	}
}

// F4, P3.2: sinks of all kinds, handed pieces of all sizes, the empty one too.
func TestWrite(t *testing.T) {
	d := dice(2)
	for _, fail := range fails() {
		for seed := range 200 {
			takes := someBounds(&d)
			s := pipe.NewSink(takes, fail)
			if s.Calls() != 0 || len(s.Bytes()) != 0 {
				t.Fatalf("new: %d %q", s.Calls(), s.Bytes())
			}
			var taken []byte
			for k := 1; k <= 14; k++ {
				p := text(d.below(9), uint64(seed*100+k))
				want, wantErr := len(p), api.OK
				if k <= len(takes) && takes[k-1] < want {
					want = max(0, takes[k-1])
				}
				if fail >= 1 && k >= fail {
					want, wantErr = 0, api.ErrPipeBroken
				}
				taken = append(taken, p[:want]...)
				if n, err := s.Write(p); n != want || err != wantErr || s.Calls() != k || !bytes.Equal(s.Bytes(), taken) {
					t.Fatalf("takes %v, fail %d, call %d of %d: %d %d, not %d %d; %q, not %q", takes, fail, k, len(p), n, err, want, wantErr, s.Bytes(), taken)
				}
			}
		}
	}
}

// F4: nothing handed is a call, too.
func TestWriteNothing(t *testing.T) {
	s := pipe.NewSink([]int{1, -1}, 3)
	for k, want := range []api.Errno{api.OK, api.OK, api.ErrPipeBroken, api.ErrPipeBroken} {
		if n, err := s.Write(nil); n != 0 || err != want || s.Calls() != k+1 || len(s.Bytes()) != 0 {
			t.Errorf("call %d: %d %d", k+1, n, err)
		}
	}
}

// turn is what a player does at one call: it lays bytes, or takes some, and tells a number and an error, whatever they are.
type turn struct {
	lay string
	n   int
	err api.Errno
}

func gives(s string, err api.Errno) turn { return turn{s, len(s), err} }

func idle(count int) []turn { return make([]turn, count) }

func turns(parts ...[]turn) []turn { return slices.Concat(parts...) }

// player is a Reader and a Writer that does what its turns say; behind them it tells 999.
type player struct {
	turns []turn
	asked []int    // room of each Read
	hands []string // what each Write was handed
}

const playedOut api.Errno = 999

func (p *player) next() turn {
	if len(p.turns) == 0 {
		return turn{err: playedOut}
	}
	x := p.turns[0]
	p.turns = p.turns[1:]
	return x
}

func (p *player) Read(room []byte) (int, api.Errno) {
	p.asked = append(p.asked, len(room))
	x := p.next()
	copy(room, x.lay)
	return x.n, x.err
}

func (p *player) Write(b []byte) (int, api.Errno) {
	p.hands = append(p.hands, string(b))
	x := p.next()
	return x.n, x.err
}

// F5: wrong arguments: one turn, ErrArg, nobody is called.
func TestChunksArg(t *testing.T) {
	for _, size := range append(wrongSizes(), 1, 4, api.MaxAsk) {
		checkGot(t, size, chunks(nil, size), []got{{"", api.ErrArg}})
	}
	for _, size := range wrongSizes() {
		r := &player{turns: []turn{gives("abc", api.OK)}}
		checkGot(t, size, chunks(r, size), []got{{"", api.ErrArg}})
		if len(r.asked) != 0 {
			t.Errorf("size %d: it was called", size)
		}
	}
}

// F5: all sizes from 1 to MaxAsk are asked for as they are.
func TestChunksSizes(t *testing.T) {
	b := text(3*api.MaxAsk+5, 4)
	for _, size := range []int{1, 2, 3, 1000, api.MaxAsk - 1, api.MaxAsk} {
		var want []got
		for piece := range slices.Chunk(b, size) {
			want = append(want, got{string(piece), api.OK})
		}
		want = append(want, got{"", api.ErrPipeEnd})
		checkGot(t, size, chunks(pipe.NewSource(api.Feed{Bytes: b}), size), want)
		r := &player{turns: []turn{gives("a", api.OK), {}, gives("", api.ErrPipeEnd)}}
		checkGot(t, size, chunks(r, size), []got{{"a", api.OK}, {"", api.ErrPipeEnd}})
		if !slices.Equal(r.asked, []int{size, size, size}) {
			t.Errorf("size %d: asked for %v", size, r.asked)
		}
	}
}

// F5: an error ends it, with the bytes that came with it; none is called behind.
func TestChunksError(t *testing.T) {
	for _, err := range []api.Errno{api.ErrPipeEnd, api.ErrPipeBroken, api.ErrPipeIdle, api.ErrPipeBad, api.ErrArg, -7, 5000} {
		for _, last := range []string{"", "x", "xyz"} {
			r := &player{turns: []turn{gives("ab", api.OK), gives(last, err), gives("c", api.OK)}}
			checkGot(t, err, chunks(r, 3), []got{{"ab", api.OK}, {last, err}})
			if len(r.asked) != 2 {
				t.Errorf("error %d: %d calls", err, len(r.asked))
			}
		}
	}
}

// F5: a number that can't be, with an error or without one.
func TestChunksBad(t *testing.T) {
	for _, n := range []int{math.MinInt, -4, -1, 5, 6, api.MaxAsk, math.MaxInt} {
		for _, err := range []api.Errno{api.OK, api.ErrPipeEnd, api.ErrPipeBroken, -7, 5000} {
			r := &player{turns: []turn{gives("ab", api.OK), {"abcd", n, err}, gives("c", api.OK)}}
			checkGot(t, n, chunks(r, 4), []got{{"ab", api.OK}, {"", api.ErrPipeBad}})
			if len(r.asked) != 2 {
				t.Errorf("number %d: %d calls", n, len(r.asked))
			}
		}
	}
	r := &player{turns: []turn{{"abcd", 4, api.OK}, {"", 0, api.ErrPipeEnd}}}
	checkGot(t, "whole", chunks(r, 4), []got{{"abcd", api.OK}, {"", api.ErrPipeEnd}})
}

// F5: fifteen calls running that give nothing are borne, again and again; sixteen are not; an error in the sixteenth's place is told.
func TestChunksIdle(t *testing.T) {
	a, b, end := []turn{gives("a", api.OK)}, []turn{gives("b", api.OK)}, []turn{gives("", api.ErrPipeEnd)}
	for _, c := range []struct {
		what  string
		turns []turn
		calls int
		want  []got
	}{
		{"15 thrice", turns(idle(15), a, idle(15), b, idle(15), end), 48, []got{{"a", 0}, {"b", 0}, {"", api.ErrPipeEnd}}},
		{"16 at once", turns(idle(16), a), 16, []got{{"", api.ErrPipeIdle}}},
		{"16 later", turns(idle(15), a, idle(16), b), 32, []got{{"a", 0}, {"", api.ErrPipeIdle}}},
		{"16th fails", turns(idle(15), []turn{{err: api.ErrPipeBroken}}), 16, []got{{"", api.ErrPipeBroken}}},
		{"16th is bad", turns(idle(15), []turn{{n: -1}}), 16, []got{{"", api.ErrPipeBad}}},
	} {
		r := &player{turns: c.turns}
		checkGot(t, c.what, chunks(r, 4), c.want)
		if len(r.asked) != c.calls {
			t.Errorf("%s: %d calls", c.what, len(r.asked))
		}
	}
}

// F5: if the range is left, the reader is not called any more; a further range goes on where it is, behind an error, too.
func TestChunksLeft(t *testing.T) {
	b := text(20, 5)
	for count := 1; count < 7; count++ {
		s := pipe.NewSource(api.Feed{Bytes: b})
		all := pipe.Chunks(s, 3)
		if s.Calls() != 0 {
			t.Error("called ahead of the range")
		}
		var seen []byte
		left := 0
		for piece := range all {
			seen = append(seen, piece...)
			if left++; left == count {
				break
			}
		}
		if s.Calls() != count || s.Left() != len(b)-len(seen) {
			t.Errorf("left at %d: %d calls, %d left", count, s.Calls(), s.Left())
		}
		for piece := range all {
			seen = append(seen, piece...)
		}
		if !bytes.Equal(seen, b) || s.Calls() != 8 {
			t.Errorf("left at %d: %q in %d calls", count, seen, s.Calls())
		}
	}
	r := &player{turns: turns(idle(16), []turn{gives("a", api.ErrPipeBroken)}, idle(15), []turn{gives("b", api.ErrPipeEnd)})}
	again := pipe.Chunks(r, 4)
	var l []got
	for range 3 {
		for piece, err := range again {
			l = append(l, got{string(piece), err})
		}
	}
	checkGot(t, "thrice", l, []got{{"", api.ErrPipeIdle}, {"a", api.ErrPipeBroken}, {"b", api.ErrPipeEnd}})
}

// F5: a range that is left at its last turn, whichever that is.
func TestChunksLeftAtError(t *testing.T) {
	for _, r := range []pipe.Reader{nil, &player{turns: idle(20)}, &player{turns: []turn{{n: 9}}}, pipe.NewSource(api.Feed{})} {
		count := 0
		for _, err := range pipe.Chunks(r, 4) {
			count++
			if err != api.OK {
				break
			}
		}
		if count != 1 {
			t.Errorf("%v: %d turns", r, count)
		}
	}
}

// F6: wrong arguments: nobody is called.
func TestCopyArg(t *testing.T) {
	w, r := &player{turns: idle(9)}, &player{turns: []turn{gives("a", api.ErrPipeEnd)}}
	for _, size := range wrongSizes() {
		checkCopy(t, w, r, size, 0, api.ErrArg)
	}
	for _, size := range append(wrongSizes(), 1, 4, api.MaxAsk) {
		checkCopy(t, nil, r, size, 0, api.ErrArg)
		checkCopy(t, w, nil, size, 0, api.ErrArg)
		checkCopy(t, nil, nil, size, 0, api.ErrArg)
	}
	if len(w.hands) != 0 || len(r.asked) != 0 {
		t.Errorf("called: %v %v", w.hands, r.asked)
	}
}

// F6: all of a piece is handed, then what is left of it; a writer is not called for nothing.
func TestCopyHands(t *testing.T) {
	r := &player{turns: []turn{gives("abcd", api.OK), {}, gives("e", api.OK), gives("fg", api.ErrPipeEnd)}}
	w := &player{turns: []turn{{n: 1}, {n: 0}, {n: 2}, {n: 1}, {n: 1}, {n: 1}, {n: 1}}}
	checkCopy(t, w, r, 4, 7, api.OK)
	if want := []string{"abcd", "bcd", "bcd", "d", "e", "fg", "g"}; !slices.Equal(w.hands, want) {
		t.Errorf("%q", w.hands)
	}
	for _, size := range []int{1, 2, 1000, api.MaxAsk} {
		r := &player{turns: []turn{{}, gives("a", api.OK), {}, gives("", api.ErrPipeEnd)}}
		w := &player{turns: []turn{{n: 1}}}
		checkCopy(t, w, r, size, 1, api.OK)
		if !slices.Equal(r.asked, []int{size, size, size, size}) || !slices.Equal(w.hands, []string{"a"}) {
			t.Errorf("size %d: %v %v", size, r.asked, w.hands)
		}
	}
}

// F6: a reader's error comes behind the bytes that came with it, the end's is OK; nobody is called behind.
func TestCopyReaderFails(t *testing.T) {
	for _, err := range []api.Errno{api.ErrPipeEnd, api.ErrPipeBroken, api.ErrPipeIdle, api.ErrPipeBad, api.ErrArg, -7, 5000} {
		want := err
		if err == api.ErrPipeEnd {
			want = api.OK
		}
		for _, last := range []string{"", "x", "xyz"} {
			r := &player{turns: []turn{gives("ab", api.OK), gives(last, err), gives("c", api.OK)}}
			w := pipe.NewSink([]int{2, 1}, 0)
			checkCopy(t, w, r, 3, 2+len(last), want)
			if string(w.Bytes()) != "ab"+last || len(r.asked) != 2 {
				t.Errorf("error %d: %q, %d calls", err, w.Bytes(), len(r.asked))
			}
		}
	}
}

// F6: a writer's error ends it at once, whatever the reader told; the bytes that were taken with it count. Its ErrPipeEnd is an error like others.
func TestCopyWriterFails(t *testing.T) {
	for _, err := range []api.Errno{api.ErrPipeEnd, api.ErrPipeBroken, api.ErrPipeIdle, api.ErrPipeBad, api.ErrArg, -7, 5000} {
		for _, told := range []api.Errno{api.OK, api.ErrPipeEnd, api.ErrPipeBroken} {
			for n := range 4 {
				r := &player{turns: []turn{gives("ab", api.OK), gives("cde", told), gives("f", api.OK)}}
				w := &player{turns: []turn{{n: 2}, {n: n, err: err}, {n: 1}, {n: 1}}}
				checkCopy(t, w, r, 3, 2+n, err)
				if len(w.hands) != 2 || len(r.asked) != 2 {
					t.Errorf("error %d with %d: %v %v", err, n, w.hands, r.asked)
				}
			}
		}
	}
}

// F6: numbers that can't be, of the reader and of the writer, with an error or without one: what that call tells does not count.
func TestCopyBad(t *testing.T) {
	for _, err := range []api.Errno{api.OK, api.ErrPipeEnd, api.ErrPipeBroken, -7, 5000} {
		for _, n := range []int{math.MinInt, -4, -1, 5, 6, api.MaxAsk, math.MaxInt} {
			r := &player{turns: []turn{gives("ab", api.OK), {"cdef", n, err}, gives("g", api.OK)}}
			w := &player{turns: []turn{{n: 2}, {n: 1}, {n: 1}}}
			checkCopy(t, w, r, 4, 2, api.ErrPipeBad)
			if len(w.hands) != 1 || len(r.asked) != 2 {
				t.Errorf("reader's %d: %v %v", n, w.hands, r.asked)
			}
		}
		for _, n := range []int{math.MinInt, -4, -1, 3, 4, 5, api.MaxAsk, math.MaxInt} {
			r := &player{turns: []turn{gives("ab", api.OK), gives("cdef", err), gives("g", api.OK)}}
			w := &player{turns: []turn{{n: 2}, {n: 2}, {n: n, err: err}, {n: 1}}}
			checkCopy(t, w, r, 4, 4, api.ErrPipeBad)
			if len(w.hands) != 3 || len(r.asked) != 2 {
				t.Errorf("writer's %d: %v %v", n, w.hands, r.asked)
			}
		}
	}
}

// F6: fifteen calls running of the reader, or of the writer, that give or take nothing are borne, sixteen are not.
func TestCopyIdle(t *testing.T) {
	ab, end := []turn{gives("ab", api.OK)}, []turn{gives("c", api.ErrPipeEnd)}
	one := []turn{{n: 1}}
	for _, c := range []struct {
		what         string
		gives, takes []turn
		n            int
		err          api.Errno
	}{
		{"both 15", turns(idle(15), ab, idle(15), end), turns(idle(15), one, idle(15), one, idle(15), one), 3, api.OK},
		{"reader 16 at once", turns(idle(16), ab, end), turns(one, one, one), 0, api.ErrPipeIdle},
		{"reader 16 later", turns(idle(15), ab, idle(16), end), turns(one, one, one), 2, api.ErrPipeIdle},
		{"reader's 16th fails", turns(idle(15), []turn{{err: api.ErrPipeBroken}}), nil, 0, api.ErrPipeBroken},
		{"reader's 16th ends", turns(idle(15), []turn{{err: api.ErrPipeEnd}}), nil, 0, api.OK},
		{"writer 16 at once", turns(ab, end), turns(idle(16), one, one, one), 0, api.ErrPipeIdle},
		{"writer 16 in a piece", turns(ab, end), turns(idle(15), one, idle(16), one, one), 1, api.ErrPipeIdle},
		{"writer 16 at the last", turns(ab, end), turns(one, one, idle(16), one), 2, api.ErrPipeIdle},
		{"writer's 16th fails", turns(ab, end), turns(idle(15), []turn{{err: api.ErrPipeBroken}}), 0, api.ErrPipeBroken},
		{"writer's 16th is bad", turns(ab, end), turns(idle(15), []turn{{n: 3}}), 0, api.ErrPipeBad},
	} {
		n, err := pipe.Copy(&player{turns: c.takes}, &player{turns: c.gives}, 2)
		if n != c.n || err != c.err {
			t.Errorf("%s: %d %d, not %d %d", c.what, n, err, c.n, c.err)
		}
	}
}

// P3.3: from sources of all kinds to sinks of all kinds: a beginning, behind what the sink had, as long as told; with OK all.
func TestCopied(t *testing.T) {
	d := dice(3)
	ended := map[api.Errno]int{}
	for seed := range 3000 {
		x := api.Feed{Bytes: text(d.below(40), uint64(seed)), Gives: someBounds(&d), Fail: fails()[d.below(11)], Eager: seed%2 == 0}
		s := pipe.NewSource(x)
		w := pipe.NewSink(append([]int{3, 1}, someBounds(&d)...), fails()[d.below(11)])
		w.Write([]byte("had"))
		had := len(w.Bytes())
		given := len(read(s, d.below(5)).bytes)
		left := x.Bytes[given:]
		n, err := pipe.Copy(w, s, d.below(9)+1)
		ended[err]++
		if n < 0 || n > len(left) || !bytes.Equal(w.Bytes()[had:], left[:n]) || string(w.Bytes()[:had]) != "had"[:had] {
			t.Fatalf("%v: %d %d, %q", x, n, err, w.Bytes())
		}
		if err == api.OK && (n != len(left) || s.Left() != 0) {
			t.Fatalf("%v: OK with %d of %d", x, n, len(left))
		}
		if err != api.OK && err != api.ErrPipeBroken {
			t.Fatalf("%v: error %d", x, err)
		}
	}
	if ended[api.OK] < 100 || ended[api.ErrPipeBroken] < 100 {
		t.Errorf("too few ways: %v", ended)
	}
}

// P3.3: a long one, by each of some sizes.
func TestCopiedLong(t *testing.T) {
	b := text(50000, 6)
	for _, size := range []int{1, 2, 17, 1000, api.MaxAsk - 1, api.MaxAsk} {
		w := pipe.NewSink([]int{0, 5, 4000, -1, 1}, 0)
		checkCopy(t, w, pipe.NewSource(api.Feed{Bytes: b, Gives: []int{5000, 0, 3}}), size, len(b), api.OK)
		if !bytes.Equal(w.Bytes(), b) {
			t.Errorf("size %d: other bytes", size)
		}
	}
}

// F5: a reader that tells bytes which it did not lay shows none of an earlier call.
func TestChunksRoom(t *testing.T) {
	r := &player{turns: []turn{gives("abcd", api.OK), {"x", 4, api.OK}, gives("", api.ErrPipeEnd)}}
	checkGot(t, "room", chunks(r, 4), []got{{"abcd", api.OK}, {"x\x00\x00\x00", api.OK}, {"", api.ErrPipeEnd}})
}

// meddler keeps all that it is handed, and writes over it later.
type meddler struct {
	feed  *pipe.Source
	taken []byte
	kept  [][]byte
}

func (m *meddler) scribble() {
	for _, b := range m.kept {
		scribble(b)
	}
}

func (m *meddler) Read(p []byte) (int, api.Errno) {
	m.scribble()
	m.kept = append(m.kept, p)
	return m.feed.Read(p)
}

func (m *meddler) Write(p []byte) (int, api.Errno) {
	m.scribble()
	m.kept = append(m.kept, p)
	m.taken = append(m.taken, p[0])
	scribble(p)
	return 1, api.OK
}

// F5, F6: readers and writers that keep and change what they are handed don't change what was told, nor what is handed next.
func TestMeddlers(t *testing.T) {
	b := text(100, 7)
	r := &meddler{feed: pipe.NewSource(api.Feed{Bytes: b, Gives: []int{2, 0, 3}})}
	var pieces [][]byte
	for piece := range pipe.Chunks(r, 9) {
		pieces = append(pieces, piece)
	}
	r.scribble()
	if !bytes.Equal(slices.Concat(pieces...), b) {
		t.Error("what was yielded is changed")
	}
	m := &meddler{feed: pipe.NewSource(api.Feed{Bytes: b})}
	checkCopy(t, m, m, 9, len(b), api.OK)
	if !bytes.Equal(m.taken, b) {
		t.Errorf("%q", m.taken)
	}
}

// P3: what is handed in stays as it was, its spare room too.
func TestHandedIn(t *testing.T) {
	whole := []byte("abcdefgh")
	numbers := []int{2, 0, 3, 7, 7}
	x := api.Feed{Bytes: whole[:6:8], Gives: numbers[:3:5]}
	s := pipe.NewSource(x)
	w := pipe.NewSink(numbers[:3:5], 0)
	for range 5 {
		read(s, 4)
		w.Write(whole[:4:8])
	}
	checkCopy(t, w, pipe.NewSource(x), 4, 6, api.OK)
	if string(whole) != "abcdefgh" || !slices.Equal(numbers, []int{2, 0, 3, 7, 7}) {
		t.Errorf("%q %v", whole, numbers)
	}
}

// F1, F4, P3: what is handed in is not kept.
func TestNotKept(t *testing.T) {
	x := exampleFeed(false)
	s := pipe.NewSource(x)
	scribble(x.Bytes)
	x.Gives[0], x.Gives[1], x.Gives[2] = 0, 5, 0
	checkGot(t, "source", chunks(s, 4), []got{{"ab", 0}, {"cde", 0}, {"f", 0}, {"", api.ErrPipeEnd}})
	takes := []int{1, 0}
	w := pipe.NewSink(takes, 0)
	takes[0], takes[1] = 0, 1
	b := []byte("xy")
	for _, want := range []int{1, 0, 2} {
		if n, _ := w.Write(b); n != want {
			t.Errorf("took %d, not %d", n, want)
		}
	}
	scribble(b)
	if string(w.Bytes()) != "xxy" {
		t.Errorf("%q", w.Bytes())
	}
	p := make([]byte, 2)
	s = pipe.NewSource(exampleFeed(false))
	s.Read(p)
	scribble(p)
	if g := chunks(s, 4); g[0].bytes != "cde" {
		t.Errorf("%v", g)
	}
}

// P3: what comes out is new memory, its spare room too.
func TestComesOutNew(t *testing.T) {
	w := pipe.NewSink(nil, 0)
	for i := range 40 {
		first := w.Bytes()
		scribble(first)
		scribble(w.Bytes())
		if want := bytes.Repeat([]byte("abc"), i); !bytes.Equal(w.Bytes(), want) {
			t.Fatalf("%q, not %q", w.Bytes(), want)
		}
		w.Write([]byte("abc"))
	}
	s := pipe.NewSource(api.Feed{Bytes: []byte("abcdefghi"), Gives: []int{3}})
	var pieces [][]byte
	for piece := range pipe.Chunks(s, 4) {
		for _, earlier := range pieces {
			scribble(earlier)
		}
		pieces = append(pieces, bytes.Clone(piece))
		scribble(piece)
	}
	if len(pieces) != 4 || s.Left() != 0 {
		t.Fatalf("%q", pieces)
	}
	pieces = nil
	for piece := range pipe.Chunks(pipe.NewSource(api.Feed{Bytes: []byte("abcdefghi"), Gives: []int{3}}), 4) {
		pieces = append(pieces, piece)
	}
	for i, piece := range pieces {
		kept := []string{"abc", "defg", "hi", ""}[i]
		if string(piece) != kept {
			t.Errorf("%q, not %q", piece, kept)
		}
		scribble(piece)
	}
}

// P3: sources and sinks have nothing in common.
func TestApart(t *testing.T) {
	x := exampleFeed(false)
	a, b := pipe.NewSource(x), pipe.NewSource(x)
	read(a, 4)
	if b.Calls() != 0 || b.Left() != 6 || read(b, 1) != (got{"a", api.OK}) || a.Left() != 4 {
		t.Error("sources")
	}
	v, w := pipe.NewSink(x.Gives, 0), pipe.NewSink(x.Gives, 0)
	v.Write([]byte("abc"))
	if w.Calls() != 0 || len(w.Bytes()) != 0 || string(v.Bytes()) != "ab" {
		t.Error("sinks")
	}
}

// scribble writes over a list and its spare room.
func scribble(b []byte) {
	b = b[:cap(b)]
	for i := range b {
		b[i] = '#'
	}
}
