// Package vint is layer 1: numbers in as few bytes as they need. See shared/doc/01-vint.md.
package vint

import (
	"iter"
	"math/bits"

	"coppice/api"
)

const (
	groupBits = 7              // bits of a number that one byte carries
	more      = 1 << groupBits // is added to each byte that another one follows
	mostBytes = 10             // 64 bits in groups of seven
	mostTop   = 1              // nine groups are 63 bits, so a tenth has room for one alone
)

// Size is how many bytes a number has.
func Size(n uint64) int {
	// 0 has a group of its own, as 1 has.
	return (bits.Len64(n|1) + groupBits - 1) / groupBits
}

// Bytes are a number's.
func Bytes(n uint64) []byte { return Join(n) }

// Join are the bytes of some numbers, one behind the other.
func Join(l ...uint64) []byte {
	size := 0
	for _, n := range l {
		size += Size(n)
	}
	b := make([]byte, 0, size)
	for _, n := range l {
		b = add(b, n)
	}
	return b
}

func add(b []byte, n uint64) []byte {
	for n >= more {
		b = append(b, byte(n%more+more))
		n >>= groupBits
	}
	return append(b, byte(n))
}

// Read reads the number that begins at a place: it, and the place behind it.
func Read(b []byte, at int) (uint64, int, api.Errno) {
	if at < 0 || at > len(b) {
		return 0, 0, api.ErrArg
	}
	place, err := at, api.ErrVintShort
	t := New()
number:
	for ; place < len(b); place++ {
		last, wrong := t.Take(b[place])
		switch {
		case wrong != api.OK:
			err = wrong
			break number
		case last:
			place, err = place+1, api.OK
			break number
		}
	}
	n, _ := t.Number()
	return n, place, err
}

// List reads bytes that are numbers, and nothing else.
func List(b []byte) ([]uint64, api.Errno, int) {
	var l []uint64
	behind := 0
	for at, n := range All(b) {
		l = append(l, n)
		behind = at + Size(n)
	}
	if behind == len(b) {
		return l, api.OK, 0
	}
	_, place, err := Read(b, behind)
	return nil, err, place
}

// All goes through the numbers from the beginning on, each with its place.
func All(b []byte) iter.Seq2[int, uint64] {
	return func(yield func(int, uint64) bool) {
		at := 0
		for {
			n, behind, err := Read(b, at)
			if err != api.OK || !yield(at, n) {
				return
			}
			at = behind
		}
	}
}

// Taker takes a number byte by byte.
type Taker struct {
	number uint64 // its groups so far
	taken  int
	whole  bool
	wrong  bool // an error was told of it
}

// New is one that has taken nothing.
func New() *Taker { return &Taker{} }

// Take takes a byte: is the number whole?
func (t *Taker) Take(c byte) (bool, api.Errno) {
	if t.whole || t.wrong {
		return false, api.ErrArg
	}
	place := t.taken
	t.taken++
	if err := fault(place, c); err != api.OK {
		t.wrong = true
		return false, err
	}
	t.number |= uint64(c%more) << (groupBits * place)
	t.whole = c < more
	return t.whole, api.OK
}

// fault is what is wrong with a byte at its place within a number, 0 the first.
func fault(place int, c byte) api.Errno {
	switch {
	case place == mostBytes-1 && c > mostTop:
		return api.ErrVintLong
	case place > 0 && c == 0:
		return api.ErrVintForm
	}
	return api.OK
}

// Number is the number, if it is whole.
func (t *Taker) Number() (uint64, bool) {
	if !t.whole {
		return 0, false
	}
	return t.number, true
}

// Taken is how many bytes were taken.
func (t *Taker) Taken() int { return t.taken }
