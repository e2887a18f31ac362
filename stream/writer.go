package stream

import (
	"slices"

	"coppice/api"
	"coppice/block"
	"coppice/pair"
)

// Writer makes a stream, entry by entry.
type Writer struct {
	most   int            // entries of a block
	making *block.Builder // the block that is being made
	rows   rows           // of the blocks that are ended
	sure   []byte         // what Next has not told yet
	shut   bool
}

// NewWriter is one whose blocks have so many entries at most.
func NewWriter(block int) (*Writer, api.Errno) {
	if block < 1 || block > api.MaxBlock {
		return nil, api.ErrArg
	}
	return begun(block), api.OK
}

// begun is a writer without entries.
func begun(most int) *Writer {
	return &Writer{most: most, making: block.New(), sure: []byte(headText)}
}

// Add puts an entry behind.
func (w *Writer) Add(e api.Entry) api.Errno {
	if err := w.fault(e); err != api.OK {
		return err
	}
	w.making.Add(e)
	if w.making.Len() == w.most {
		w.endBlock()
	}
	return api.OK
}

// fault is what is wrong with an entry that is to be the last one.
func (w *Writer) fault(e api.Entry) api.Errno {
	if w.shut {
		return api.ErrStreamShut
	}
	if err := pair.Check(e); err != api.OK {
		return err
	}
	begins := w.making.Len() == 0
	ahead := w.rows.last()
	if !begins {
		ahead = w.making.Last()
	}
	if pair.Compare(ahead, e.Key) >= 0 {
		return api.ErrPairOrder
	}
	if begins && len(w.rows) == api.MaxRows {
		return api.ErrFootMany
	}
	return api.OK
}

// Cut ends the block.
func (w *Writer) Cut() api.Errno {
	if w.shut {
		return api.ErrStreamShut
	}
	w.endBlock()
	return api.OK
}

// Close ends the stream.
func (w *Writer) Close() api.Errno {
	if w.shut {
		return api.ErrStreamShut
	}
	w.endBlock()
	w.shut = true
	w.sure = slices.Concat(w.sure, frame(kindFoot, w.rows.foot()), tail(w.rows.behind()))
	return api.OK
}

// endBlock makes the block that is being made sure, if it has entries.
func (w *Writer) endBlock() {
	entries, last := w.making.Len(), w.making.Last()
	if entries == 0 {
		return
	}
	f := frame(kindBlock, w.making.Bytes())
	w.rows = w.rows.with(last, len(f), entries)
	w.sure = append(w.sure, f...)
}

// Next are the bytes that came since Next was called last. They are handed over, not copied: the writer has them no more.
func (w *Writer) Next() []byte {
	b := w.sure
	w.sure = nil
	return b
}

// Spans are the rows of the blocks so far.
func (w *Writer) Spans() []api.Span { return w.rows.copied() }
