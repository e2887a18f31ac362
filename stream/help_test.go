package stream_test

import (
	"bytes"
	"encoding/binary"
	"hash/crc32"
	"iter"
	"slices"
	"testing"

	"coppice/api"
	"coppice/block"
	"coppice/foot"
	"coppice/pipe"
	"coppice/stream"
	"coppice/vint"
)

// dice are numbers below a bound, the same ones at each run.
type dice uint64

func (d *dice) below(n int) int {
	x := uint64(*d)*6364136223846793005 + 1442695040888963407
	*d = dice(x)
	return int((x >> 33) % uint64(n))
}

// pick is one of some numbers.
func (d *dice) pick(l ...int) int { return l[d.below(len(l))] }

// text are so many bytes of a few kinds, so that texts often have much in common.
func (d *dice) text(size int) []byte {
	b := make([]byte, size)
	for i := range b {
		b[i] = []byte{0, 0, 'a', 'a', 'a', 'b', 255, 255}[d.below(8)]
	}
	return b
}

// entries are so many that rise.
func (d *dice) entries(count int) []api.Entry {
	var l []api.Entry
	for len(l) < count {
		e := api.Entry{Key: d.text(1 + d.below(64)), Value: d.text(d.pick(0, 1, 2, 9, 127, 128, 256))}
		if at, is := slices.BinarySearchFunc(l, e, byKey); !is {
			l = slices.Insert(l, at, e)
		}
	}
	return l
}

// cut is a list in blocks of 1 to 64 entries, most of them of a few.
func (d *dice) cut(l []api.Entry) [][]api.Entry {
	var blocks [][]api.Entry
	for len(l) > 0 {
		n := min(len(l), d.pick(1, 1, 2, 3, 8, 9, 64, 1+d.below(64)))
		blocks = append(blocks, l[:n])
		l = l[n:]
	}
	return blocks
}

func byKey(x, y api.Entry) int { return bytes.Compare(x.Key, y.Key) }

func entry(key, value string) api.Entry { return api.Entry{Key: []byte(key), Value: []byte(value)} }

// three are the entries of the chapter's example.
func three() []api.Entry { return []api.Entry{entry("ab", "1"), entry("abc", ""), entry("c", "")} }

// plain are so many entries with keys of two bytes, by even numbers.
func plain(count int) []api.Entry {
	var l []api.Entry
	for i := range count {
		l = append(l, api.Entry{Key: even(i), Value: []byte{byte(i), byte(i * i)}})
	}
	return l
}

func even(i int) []byte { return []byte{byte(2 * i >> 8), byte(2 * i)} }

// odd is a key between those of the numbers i and i + 1.
func odd(i int) []byte { return []byte{byte((2*i + 1) >> 8), byte(2*i + 1)} }

func same(x, y api.Entry) bool { return bytes.Equal(x.Key, y.Key) && bytes.Equal(x.Value, y.Value) }

func sameList(x, y []api.Entry) bool { return slices.EqualFunc(x, y, same) }

func sameSpans(x, y []api.Span) bool {
	return slices.EqualFunc(x, y, func(x, y api.Span) bool {
		return bytes.Equal(x.Last, y.Last) && x.At == y.At && x.Len == y.Len && x.Entries == y.Entries
	})
}

// copied is a list in memory of its own.
func copied(l []api.Entry) []api.Entry {
	c := slices.Clone(l)
	for i := range c {
		c[i] = api.Entry{Key: bytes.Clone(c[i].Key), Value: bytes.Clone(c[i].Value)}
	}
	return c
}

func copiedSpans(l []api.Span) []api.Span {
	c := slices.Clone(l)
	for i := range c {
		c[i].Last = bytes.Clone(c[i].Last)
	}
	return c
}

// drawn are the entries that a range goes through.
func drawn(all iter.Seq2[[]byte, []byte]) []api.Entry {
	var l []api.Entry
	for k, v := range all {
		l = append(l, api.Entry{Key: k, Value: v})
	}
	return l
}

// number are a number's bytes.
func number(n uint64) []byte { return binary.AppendUvarint(nil, n) }

func sum(b []byte) []byte { return binary.LittleEndian.AppendUint32(nil, crc32.ChecksumIEEE(b)) }

const (
	head = "coppice\x01"
	end  = "end."
)

func tail(place uint64) []byte {
	return append(binary.LittleEndian.AppendUint64(nil, place), end...)
}

// part is a frame in its pieces, right or not.
type part struct {
	kind            []byte
	size, body, sum []byte
}

// sealed is a frame of a body, with its right length and sum.
func sealed(kind byte, body []byte) part {
	return part{[]byte{kind}, number(uint64(len(body))), body, sum(body)}
}

func (p part) bytes() []byte { return slices.Concat(p.kind, p.size, p.body, p.sum) }

// built is the frame of a block.
func built(t *testing.T, l []api.Entry) part {
	t.Helper()
	b, err, n := block.Build(l)
	if err != api.OK {
		t.Fatalf("Build of %v: %d, %d", l, err, n)
	}
	return sealed('B', b)
}

// parts are the frames of blocks, and the rows of these.
func parts(t *testing.T, blocks [][]api.Entry) ([]part, []api.Span) {
	t.Helper()
	var l []part
	var spans []api.Span
	at := 8
	for _, some := range blocks {
		p := built(t, some)
		s := api.Span{Last: some[len(some)-1].Key, At: at, Len: len(p.bytes()), Entries: len(some)}
		l, spans, at = append(l, p), append(spans, s), at+s.Len
	}
	return l, spans
}

// footText is the foot of rows, told by chapter 7's words.
func footText(l []api.Span) []byte {
	b := number(uint64(len(l)))
	total := 0
	for _, s := range l {
		b = slices.Concat(b, number(uint64(len(s.Last))), s.Last, number(uint64(s.At)), number(uint64(s.Len)), number(uint64(s.Entries)))
		total += s.Entries
	}
	return append(b, number(uint64(total))...)
}

// laid is the head, frames, the frame of a foot, and the tail that tells where this begins.
func laid(l []part, text []byte) []byte {
	b := []byte(head)
	for _, p := range l {
		b = append(b, p.bytes()...)
	}
	return slices.Concat(b, sealed('F', text).bytes(), tail(uint64(len(b))))
}

// written is the stream of entries that are cut into blocks, told by the chapter's words; and its rows.
func written(t *testing.T, blocks [][]api.Entry) ([]byte, []api.Span) {
	t.Helper()
	l, spans := parts(t, blocks)
	return laid(l, footText(spans)), spans
}

// by cuts a list into blocks of n.
func by(l []api.Entry, n int) [][]api.Entry { return slices.Collect(slices.Chunk(l, n)) }

// whole is the stream by n, told by the chapter's words.
func whole(t *testing.T, l []api.Entry, n int) []byte {
	t.Helper()
	b, _ := written(t, by(l, n))
	return b
}

// answer is what reading tells: entries, the rows of the blocks that were right, an error and its place.
type answer struct {
	l     []api.Entry
	spans []api.Span
	err   api.Errno
	at    int
}

// told is what a Reader that reads bytes at one stroke must tell: the chapter's words, one behind the other. (Its entries are those of all blocks that were right.)
func told(b []byte) answer {
	var x answer
	wrong := func(err api.Errno, at int) answer {
		x.err, x.at = err, at
		return x
	}
	if len(b) < 8 {
		return wrong(api.ErrCursorShort, 0)
	}
	if string(b[:8]) != head {
		return wrong(api.ErrStreamHead, 0)
	}
	for at := 8; ; {
		begin := at
		if begin == len(b) {
			return wrong(api.ErrCursorShort, begin)
		}
		kind := b[begin]
		if kind != 0x42 && kind != 0x46 {
			return wrong(api.ErrStreamKind, begin)
		}
		size, body, err := vint.Read(b, begin+1)
		if err == api.ErrVintShort {
			return wrong(api.ErrCursorShort, begin+1)
		}
		if err != api.OK {
			return wrong(err, begin+1)
		}
		if kind == 0x42 && (size < 1 || size > 65535) {
			return wrong(api.ErrStreamLen, begin+1)
		}
		text := footText(x.spans)
		if kind == 0x46 && size != uint64(len(text)) {
			return wrong(api.ErrStreamFoot, begin+1)
		}
		place := body + int(size)
		if place > len(b) {
			return wrong(api.ErrCursorShort, body)
		}
		if place+4 > len(b) {
			return wrong(api.ErrCursorShort, place)
		}
		if !bytes.Equal(b[place:place+4], sum(b[body:place])) {
			return wrong(api.ErrCrcSum, place)
		}
		at = place + 4
		if kind == 0x46 {
			return toldEnd(x, b, begin, body, place, text)
		}
		l, err, deep := block.Read(b[body:place])
		if err != api.OK {
			return wrong(err, body+deep)
		}
		if n := len(x.l); n > 0 && bytes.Compare(x.l[n-1].Key, l[0].Key) >= 0 {
			return wrong(api.ErrPairOrder, body)
		}
		x.l = append(x.l, l...)
		x.spans = append(x.spans, api.Span{Last: l[len(l)-1].Key, At: begin, Len: at - begin, Entries: len(l)})
	}
}

// toldEnd is told from the foot on.
func toldEnd(x answer, b []byte, begin, body, place int, text []byte) answer {
	for i, c := range text {
		if b[body+i] != c {
			x.err, x.at = api.ErrStreamFoot, body+i
			return x
		}
	}
	place += 4
	switch {
	case len(b)-place < 12:
		x.err, x.at = api.ErrCursorShort, place
	case !bytes.Equal(b[place:place+12], tail(uint64(begin))):
		x.err, x.at = api.ErrStreamTail, place
	case len(b) > place+12:
		x.err, x.at = api.ErrStreamRest, place+12
	}
	return x
}

// opened is what Open must tell of bytes: the chapter's words, one behind the other.
func opened(b []byte) ([]api.Span, api.Errno, int) {
	if !bytes.HasPrefix(b, []byte(head)) {
		return nil, api.ErrStreamHead, 0
	}
	if len(b) < 20 {
		return nil, api.ErrStreamTail, 8
	}
	behind := len(b) - 12
	begin := binary.LittleEndian.Uint64(b[behind:])
	if string(b[behind+8:]) != end || begin < 8 || begin > uint64(behind) {
		return nil, api.ErrStreamTail, behind
	}
	at := int(begin)
	if at == behind || b[at] != 0x46 {
		return nil, api.ErrStreamKind, at
	}
	size, body, err := vint.Read(b[:behind], at+1)
	if err != api.OK {
		return nil, err, body
	}
	if size > uint64(behind) || body+int(size)+4 != behind {
		return nil, api.ErrStreamLen, at + 1
	}
	if !bytes.Equal(b[behind-4:behind], sum(b[body:behind-4])) {
		return nil, api.ErrCrcSum, behind - 4
	}
	l, err, deep := foot.Read(b[body : behind-4])
	if err != api.OK {
		return nil, err, body + deep
	}
	last := 8
	if len(l) > 0 {
		last = l[len(l)-1].At + l[len(l)-1].Len
	}
	if last != at {
		return nil, api.ErrStreamFoot, at
	}
	return l, api.OK, 0
}

// readAll is what a new Reader of a pipe tells, block by block.
func readAll(p pipe.Reader) answer {
	r := stream.NewReader(p)
	var x answer
	for {
		l, is := r.Block()
		if !is {
			break
		}
		x.l = append(x.l, l...)
	}
	x.spans = r.Spans()
	x.err, x.at = r.Fault()
	return x
}

func (x answer) same(y answer) bool {
	return sameList(x.l, y.l) && sameSpans(x.spans, y.spans) && x.err == y.err && x.at == y.at
}

func source(b []byte, gives ...int) *pipe.Source {
	return pipe.NewSource(api.Feed{Bytes: b, Gives: gives})
}

// hold holds a Reader, Parse and Open of any bytes against the chapter's words; it tells whether they are a stream.
func hold(t *testing.T, b []byte) bool {
	t.Helper()
	want := told(b)
	if got := readAll(source(b)); !got.same(want) {
		t.Fatalf("% x was read as %v; want %v", b, got, want)
	}
	l, err, at := stream.Parse(b)
	if err != want.err || at != want.at || err != api.OK && len(l) != 0 || err == api.OK && !sameList(l, want.l) {
		t.Fatalf("Parse of % x: %v, %d, %d; want %v", b, l, err, at, want)
	}
	spans, err, at := opened(b)
	f, gotErr, gotAt := stream.Open(b)
	if gotErr != err || gotAt != at || (f == nil) != (err != api.OK) {
		t.Fatalf("Open of % x: %d, %d; want %d, %d", b, gotErr, gotAt, err, at)
	}
	if f != nil && !sameSpans(f.Spans(), spans) {
		t.Fatalf("Open of % x: %v; want %v", b, f.Spans(), spans)
	}
	return want.err == api.OK
}

// checkParse holds Parse of bytes that are no stream against an error and its place.
func checkParse(t *testing.T, what string, b []byte, err api.Errno, at int) {
	t.Helper()
	if l, gotErr, gotAt := stream.Parse(b); len(l) != 0 || gotErr != err || gotAt != at {
		t.Errorf("%s: Parse of % x: %v, %d, %d; want %d, %d", what, b, l, gotErr, gotAt, err, at)
	}
	hold(t, b)
}

// checkOpen holds Open of bytes against an error and its place.
func checkOpen(t *testing.T, what string, b []byte, err api.Errno, at int) {
	t.Helper()
	if f, gotErr, gotAt := stream.Open(b); f != nil || gotErr != err || gotAt != at {
		t.Errorf("%s: Open of % x: %d, %d; want %d, %d", what, b, gotErr, gotAt, err, at)
	}
	hold(t, b)
}

// turned are bytes of which the one at a place is another one.
func turned(b []byte, at int, c byte) []byte {
	x := bytes.Clone(b)
	x[at] = c
	return x
}

func writer(t *testing.T, most int) *stream.Writer {
	t.Helper()
	w, err := stream.NewWriter(most)
	if w == nil || err != api.OK {
		t.Fatalf("NewWriter(%d): %d", most, err)
	}
	return w
}

func file(t *testing.T, b []byte) *stream.File {
	t.Helper()
	f, err, at := stream.Open(b)
	if f == nil || err != api.OK || at != 0 {
		t.Fatalf("Open of % x: %d, %d", b, err, at)
	}
	return f
}
