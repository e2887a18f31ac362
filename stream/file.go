package stream

import (
	"bytes"
	"iter"
	"slices"

	"coppice/api"
	"coppice/block"
	"coppice/foot"
	"coppice/pair"
)

// File is a stream that is looked into here and there.
type File struct {
	ahead []byte // what stands ahead of the foot's frame
	rows  rows
}

// Open is one: its foot is read, its blocks are not.
func Open(b []byte) (*File, api.Errno, int) {
	if !bytes.HasPrefix(b, []byte(headText)) {
		return nil, api.ErrStreamHead, 0
	}
	end := max(api.HeadLen, len(b)-tailBytes)
	begin, is := toldPlace(b[end:], end)
	if !is {
		return nil, api.ErrStreamTail, end
	}
	body, at, err := unframe(kindFoot, b[begin:end])
	if err != api.OK {
		return nil, err, begin + at
	}
	l, err, wrong := foot.Read(body)
	if err != api.OK {
		return nil, err, begin + at + wrong
	}
	if rows(l).behind() != begin {
		return nil, api.ErrStreamFoot, begin
	}
	return &File{ahead: bytes.Clone(b[:begin]), rows: l}, api.OK, 0
}

// toldPlace is the place that a tail tells; false, if it is none that begins at a place. Fewer bytes than a tail has are none.
func toldPlace(b []byte, at int) (int, bool) {
	if len(b) != tailBytes || string(b[placeBytes:]) != endText {
		return 0, false
	}
	var place uint64
	for i, c := range b[:placeBytes] {
		place |= uint64(c) << (byteBits * i)
	}
	if place < api.HeadLen || place > uint64(at) {
		return 0, false
	}
	return int(place), true
}

// Spans are its rows.
func (f *File) Spans() []api.Span { return f.rows.copied() }

// Get looks a key up: one block is read.
func (f *File) Get(key []byte) ([]byte, bool, api.Errno) {
	row := foot.Find(f.rows, key)
	if row == len(f.rows) {
		return nil, false, api.OK
	}
	l, err := f.read(f.rows[row])
	if err != api.OK {
		return nil, false, err
	}
	at, is := slices.BinarySearchFunc(l, key, func(e api.Entry, key []byte) int { return pair.Compare(e.Key, key) })
	if !is {
		return nil, false, api.OK
	}
	return l[at].Value, true, api.OK
}

// Range goes through the entries from lo on, below hi: the blocks that have some are read.
func (f *File) Range(lo []byte, hi []byte) iter.Seq2[[]byte, []byte] {
	// It is gone through when whoever handed them in may have changed them.
	lo, hi = bytes.Clone(lo), bytes.Clone(hi)
	return func(yield func([]byte, []byte) bool) {
	blocks:
		for _, s := range f.rows[foot.Find(f.rows, lo):] {
			l, err := f.read(s)
			if err != api.OK {
				break blocks
			}
			for _, e := range l {
				if pair.Compare(e.Key, lo) < 0 {
					continue
				}
				if len(hi) > 0 && pair.Compare(e.Key, hi) >= 0 {
					break blocks
				}
				if !yield(e.Key, e.Value) {
					break blocks
				}
			}
		}
	}
}

// read is the entries of a row's block; an error, if it is wrong.
func (f *File) read(s api.Span) ([]api.Entry, api.Errno) {
	body, _, err := unframe(kindBlock, f.ahead[s.At:s.At+s.Len])
	if err != api.OK {
		return nil, err
	}
	l, err, _ := block.Read(body)
	if err != api.OK {
		return nil, err
	}
	if len(l) != s.Entries || !bytes.Equal(l[len(l)-1].Key, s.Last) {
		return nil, api.ErrStreamFoot
	}
	return l, api.OK
}
