package get_test

import (
	"coppice/api"
	"coppice/arena"
	"coppice/descent"
	"coppice/node"
)

// writer turns a tree as the chapters of puts and deletions say it, one call of the arena a step: a descent, one latch, the node anew, or its halves and the level above.
type writer struct {
	a       *arena.Arena
	c       api.Config
	next    []func()
	effects map[string]string // the map, by the steps at which writes took effect; several writers may share it
}

func newWriter(a *arena.Arena, c api.Config, effects map[string]string) *writer {
	return &writer{a: a, c: c, effects: effects}
}

func (w *writer) idle() bool { return len(w.next) == 0 }

// step does one step, if one is left.
func (w *writer) step() {
	if w.idle() {
		return
	}
	do := w.next[0]
	w.next = w.next[1:]
	do()
}

func (w *writer) then(steps ...func()) { w.next = append(w.next, steps...) }

// finish does what is left, and tells how many steps that was.
func (w *writer) finish() int {
	steps := 0
	for ; !w.idle(); steps++ {
		w.step()
	}
	return steps
}

// put begins to give a key a value, del to take one away.
func (w *writer) put(key, value string) {
	change := func(n api.Node) (api.Node, bool) { return node.With(n, []byte(key), []byte(value)), true }
	w.write([]byte(key), 0, change, func() { w.effects[key] = value }, nil)
}

func (w *writer) del(key string) {
	m := descent.New(w.a, []byte(key), 0)
	w.down(m, func(id int, word uint64, n api.Node) {
		less, there := node.Without(n, []byte(key))
		if !there {
			return
		}
		w.then(func() {
			if is, _ := w.a.Lock(id, word); !is {
				w.del(key)
				return
			}
			w.then(
				func() { w.a.SetBody(id, less.Body) },
				func() { w.a.Unlock(id, true); delete(w.effects, key) })
		})
	}, func() {})
}

// down goes on with a descent, and then with what is to be done at a node, or where there is none.
func (w *writer) down(m *descent.Machine, at func(id int, word uint64, n api.Node), none func()) {
	w.then(func() {
		if !m.Step() {
			w.down(m, at, none)
			return
		}
		if id, word, n := m.At(); id > 0 {
			at(id, word, n)
		} else {
			none()
		}
	})
}

// write changes the node of a level to which a key belongs; effect is what takes effect then. Where there is no such level, top is done.
func (w *writer) write(key []byte, level int, change func(api.Node) (api.Node, bool), effect func(), top func()) {
	m := descent.New(w.a, key, level)
	w.down(m, func(id int, word uint64, n api.Node) {
		w.then(func() {
			if is, _ := w.a.Lock(id, word); !is {
				w.write(key, level, change, effect, top)
				return
			}
			other, is := change(n)
			switch {
			case !is:
				w.then(func() { w.a.Unlock(id, false) })
			case node.Over(other, w.c):
				w.halve(id, other, effect)
			default:
				w.then(
					func() { w.a.SetBody(id, other.Body) },
					func() { w.a.Unlock(id, true); effect() })
			}
		})
	}, top)
}

// halve lays a node whose latch is held as two, if a slot is left, and tells the level above.
func (w *writer) halve(id int, n api.Node, effect func()) {
	w.then(func() {
		half, err := w.a.Alloc()
		if err != api.OK {
			w.then(func() { w.a.Unlock(id, false) })
			return
		}
		left, right, between := node.Split(n, half)
		w.then(
			func() { w.a.SetHead(half, right.Head) },
			func() { w.a.SetBody(half, right.Body) },
			func() { w.a.Unlock(half, true) },
			func() { w.a.SetHead(id, left.Head) },
			func() { w.a.SetBody(id, left.Body) },
			func() {
				w.a.Unlock(id, true)
				effect()
				w.join(n.Level+1, between, id, half)
			})
	})
}

// join tells a level of the right one of two halves, or grows a root above them.
func (w *writer) join(level int, between []byte, left, right int) {
	change := func(n api.Node) (api.Node, bool) { return node.Joined(n, between, right) }
	w.write(between, level, change, func() {}, func() {
		w.then(func() {
			if w.a.Root() == left {
				w.top(level, between, left, right)
			}
		})
	})
}

func (w *writer) top(level int, between []byte, left, right int) {
	w.then(func() {
		id, err := w.a.Alloc()
		if err != api.OK {
			return
		}
		w.then(
			func() { w.a.SetHead(id, api.Head{Level: level}) },
			func() { w.a.SetBody(id, api.Body{Keys: [][]byte{between}, Kids: []int{left, right}}) },
			func() { w.a.Unlock(id, true) },
			func() {
				if is, _ := w.a.Grow(left, id); !is {
					w.join(level, between, left, right)
				}
			})
	})
}
