package stream

import (
	"iter"
	"math"
	"slices"

	"coppice/api"
	"coppice/block"
	"coppice/crc"
	"coppice/cursor"
	"coppice/pair"
	"coppice/pipe"
)

// Reader reads a stream, block by block.
type Reader struct {
	in    *cursor.In
	next  func() api.Fault // reads what comes next, and says what does behind it; nil: it has ended
	rows  rows
	left  []api.Entry // of the block that was read last
	fault api.Fault
}

// NewReader is one.
func NewReader(r pipe.Reader) *Reader {
	if r == nil {
		return nil
	}
	x := &Reader{in: cursor.NewIn(r, math.MaxInt)}
	x.next = x.readHead
	return x
}

// Block are the next block's entries; false: there is none more.
func (r *Reader) Block() ([]api.Entry, bool) {
	if !r.more() {
		return nil, false
	}
	l := r.left
	r.left = nil
	return l, true
}

// All goes through the entries that are left. Each is taken off ahead of its yield, so that whoever goes on, within the range or behind it, finds the others alone.
func (r *Reader) All() iter.Seq2[[]byte, []byte] {
	return func(yield func([]byte, []byte) bool) {
		for r.more() {
			e := r.left[0]
			r.left = r.left[1:]
			if !yield(e.Key, e.Value) {
				return
			}
		}
	}
}

// Fault is the error by which it ended, and its place.
func (r *Reader) Fault() (api.Errno, int) { return r.fault.Err, r.fault.At }

// Spans are the rows of the blocks so far.
func (r *Reader) Spans() []api.Span { return r.rows.copied() }

// more reads on till entries are left: are there some?
func (r *Reader) more() bool {
	for len(r.left) == 0 && r.next != nil {
		r.fault = r.next()
		if r.fault.Err != api.OK {
			r.next = nil
		}
	}
	return len(r.left) > 0
}

// readHead reads the head.
func (r *Reader) readHead() api.Fault {
	b, wrong := r.bytes(api.HeadLen)
	if wrong.Err != api.OK {
		return wrong
	}
	if string(b) != headText {
		return api.Fault{Err: api.ErrStreamHead}
	}
	r.next = r.readKind
	return api.Fault{}
}

// readKind reads a frame's kind.
func (r *Reader) readKind() api.Fault {
	at := r.in.At()
	kind, err := r.in.Byte()
	switch {
	case err != api.OK:
		return api.Fault{Err: err, At: at}
	case kind == kindFoot:
		r.next = r.readFoot
	case kind != kindBlock:
		return api.Fault{Err: api.ErrStreamKind, At: at}
	case len(r.rows) == api.MaxRows:
		return api.Fault{Err: api.ErrFootMany, At: at}
	default:
		r.next = r.readBlock
	}
	return api.Fault{}
}

// readBlock reads a block's frame behind its kind.
func (r *Reader) readBlock() api.Fault {
	body, begin, wrong := r.body(1, api.MaxBody, api.ErrStreamLen)
	if wrong.Err != api.OK {
		return wrong
	}
	l, err, at := block.Read(body)
	if err != api.OK {
		return api.Fault{Err: err, At: begin + at}
	}
	if pair.Compare(r.rows.last(), l[0].Key) >= 0 {
		return api.Fault{Err: api.ErrPairOrder, At: begin}
	}
	r.rows = r.rows.with(l[len(l)-1].Key, r.in.At()-r.rows.behind(), len(l))
	r.left = l
	r.next = r.readKind
	return api.Fault{}
}

// readFoot reads the foot's frame behind its kind. Its bytes are held against those that must be there, so nothing of it is looked into.
func (r *Reader) readFoot() api.Fault {
	want := r.rows.foot()
	body, begin, wrong := r.body(len(want), len(want), api.ErrStreamFoot)
	if wrong.Err != api.OK {
		return wrong
	}
	if right := pair.Common(body, want); right < len(want) {
		return api.Fault{Err: api.ErrStreamFoot, At: begin + right}
	}
	r.next = r.readTail
	return api.Fault{}
}

// readTail reads the tail.
func (r *Reader) readTail() api.Fault {
	at := r.in.At()
	b, wrong := r.bytes(tailBytes)
	if wrong.Err != api.OK {
		return wrong
	}
	if !slices.Equal(b, tail(r.rows.behind())) {
		return api.Fault{Err: api.ErrStreamTail, At: at}
	}
	r.next = r.readEnd
	return api.Fault{}
}

// readEnd looks whether something is left.
func (r *Reader) readEnd() api.Fault {
	end, err := r.in.End()
	if err == api.OK && !end {
		err = api.ErrStreamRest
	}
	if err != api.OK {
		return api.Fault{Err: err, At: r.in.At()}
	}
	r.next = nil
	return api.Fault{}
}

// body reads the length, which must be within bounds, the body and the sum: the body, and the place where it begins.
func (r *Reader) body(least int, most int, outside api.Errno) ([]byte, int, api.Fault) {
	at := r.in.At()
	size, err := r.in.Number()
	if err == api.OK && (size < uint64(least) || size > uint64(most)) {
		err = outside
	}
	if err != api.OK {
		return nil, 0, api.Fault{Err: err, At: at}
	}
	begin := r.in.At()
	body, wrong := r.bytes(int(size))
	if wrong.Err != api.OK {
		return nil, 0, wrong
	}
	at = r.in.At()
	sum, wrong := r.bytes(sumBytes)
	if wrong.Err != api.OK {
		return nil, 0, wrong
	}
	if _, err := crc.Open(slices.Concat(body, sum)); err != api.OK {
		return nil, 0, api.Fault{Err: err, At: at}
	}
	return body, begin, api.Fault{}
}

// bytes reads the next n bytes.
func (r *Reader) bytes(n int) ([]byte, api.Fault) {
	at := r.in.At()
	b, err := r.in.Bytes(n)
	if err != api.OK {
		return nil, api.Fault{Err: err, At: at}
	}
	return b, api.Fault{}
}
