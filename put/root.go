package put

import "coppice/api"

// seeRoot looks whether the left half is the root: just then the level above is this machine's to make.
func (m *Machine) seeRoot() (bool, api.Errno) {
	m.next = nil
	if m.arena.Root() == m.left {
		m.next = m.takeTop
	}
	return false, api.OK
}

// takeTop takes a slot for a new root. Without one the right half is come to by the left one alone.
func (m *Machine) takeTop() (bool, api.Errno) {
	id, err := m.arena.Alloc()
	if err != api.OK {
		m.next = nil
		return false, api.OK
	}
	m.top, m.next = id, m.layTopHead
	return false, api.OK
}

func (m *Machine) layTopHead() (bool, api.Errno) {
	m.next = m.layTopBody
	return false, m.arena.SetHead(m.top, api.Head{Level: m.level})
}

func (m *Machine) layTopBody() (bool, api.Errno) {
	m.next = m.freeTop
	return false, m.arena.SetBody(m.top, api.Body{Keys: [][]byte{m.sep}, Kids: []int{m.left, m.right}})
}

func (m *Machine) freeTop() (bool, api.Errno) {
	m.next = m.grow
	return false, m.arena.Unlock(m.top, true)
}

// grow makes it the root, unless another machine made one meanwhile: then there is a level above by now.
func (m *Machine) grow() (bool, api.Errno) {
	m.next = nil
	grown, err := m.arena.Grow(m.left, m.top)
	if !grown {
		m.beginDown()
	}
	return false, err
}
