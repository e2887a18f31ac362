package put

import (
	"coppice/api"
	"coppice/node"
)

// piece is what is laid of two halves in one step.
type piece int

// The right half comes first: when the left one leads to it, it must stand there, free.
const (
	rightHead piece = iota
	rightBody
	rightFree
	leftHead
	leftBody
)

// takeHalf takes a slot for the right half of a node that is too great.
func (m *Machine) takeHalf() (bool, api.Errno) {
	id, err := m.arena.Alloc()
	if err != api.OK {
		m.next = m.giveBack
		return false, api.OK
	}
	left, right, between := node.Split(m.here.node, id)
	m.here.node, m.fresh, m.between = left, place{id, right}, between
	m.piece, m.next = rightHead, m.layHalves
	return false, api.OK
}

// layHalves lays one piece of the halves. A piece of the left half is laid as the right one's is, but here.
func (m *Machine) layHalves() (bool, api.Errno) {
	half, now := m.fresh, m.piece
	m.piece++
	switch now {
	case leftHead:
		half = m.here
		fallthrough
	case rightHead:
		return false, m.arena.SetHead(half.id, half.node.Head)
	case leftBody:
		half = m.here
		m.next = m.rise
		fallthrough
	case rightBody:
		return false, m.arena.SetBody(half.id, half.node.Body)
	}
	return false, m.arena.Unlock(half.id, true)
}

// rise gives the left half's latch back, and goes on with the level above, which is to know the right one.
func (m *Machine) rise() (bool, api.Errno) {
	took, err := m.free()
	m.left, m.right, m.sep = m.here.id, m.fresh.id, m.between
	m.level++
	m.beginDown()
	return took, err
}
