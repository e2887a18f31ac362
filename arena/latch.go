package arena

import "sync/atomic"

// A word's lowest bit says that the latch is held; those above count how often it was given back as changed.
const (
	heldBit uint64 = 1 << iota
	oneChange
)

// latch is a word that is read and changed in one piece.
type latch struct {
	word atomic.Uint64
}

func isHeld(word uint64) bool { return word&heldBit != 0 }

func (l *latch) read() uint64 { return l.word.Load() }

func (l *latch) isHeld() bool { return isHeld(l.read()) }

// take takes the latch, if its word is this one, and free.
func (l *latch) take(word uint64) bool {
	return !isHeld(word) && l.word.CompareAndSwap(word, word|heldBit)
}

// give gives the latch back, if it is held. The count goes round behind its last number.
func (l *latch) give(changed bool) bool {
	word := l.read()
	if !isHeld(word) {
		return false
	}
	free := word &^ heldBit
	if changed {
		free += oneChange
	}
	// Nobody but a holder turns a held word: if it is another one now, it was given back already.
	return l.word.CompareAndSwap(word, free)
}
