package shape

import (
	"bytes"

	"coppice/api"
	"coppice/arena"
	"coppice/node"
)

// spot is what a look keeps of a node that it met. A leaf's keys and values are not kept: nothing hangs below them.
type spot struct {
	level int
	low   []byte
	width int // a leaf's keys, an inner node's kids
	keys  [][]byte
	kids  []int
}

// look is a tree as far as it was looked at.
type look struct {
	arena  *arena.Arena
	config api.Config
	met    map[int]spot // by number
	chains [][]int      // the numbers of each level's nodes, from the root's level down
}

// lookAt looks at a whole tree, and tells the first thing that is wrong, or that it is sound.
func lookAt(a *arena.Arena, c api.Config) (*look, api.Report) {
	if a == nil || node.Config(c) != api.OK {
		return nil, wrong(0, api.ErrArg)
	}
	if held := a.Held(); len(held) > 0 {
		return nil, wrong(held[0], api.ErrArenaLatch)
	}
	l := &look{arena: a, config: c, met: map[int]spot{}}
	return l, l.descend()
}

func wrong(id int, err api.Errno) api.Report { return api.Report{Node: id, Err: err} }

// descend goes along the chain of each level, from the root's level down.
func (l *look) descend() api.Report {
	var report api.Report
	id := l.arena.Root()
	// The root's own level is right, whatever it is: if there can't be such a one, the root's form is wrong.
	head, _ := l.arena.Head(id)
levels:
	for level := head.Level; ; level-- {
		var low []byte
		l.chains = append(l.chains, nil)
		for {
			n, err := l.meet(id, level, low)
			if err != api.OK {
				report = wrong(id, err)
				break levels
			}
			if n.Right != 0 {
				id, low = n.Right, n.High
				continue
			}
			if up := l.stray(level); up != 0 {
				report = wrong(up, api.ErrShapeChild)
				break levels
			}
			if level == 0 {
				report = l.sound()
				break levels
			}
			id = l.firstBelow()
			continue levels
		}
	}
	return report
}

// meet looks at the next node of the lowest chain.
func (l *look) meet(id int, level int, low []byte) (api.Node, api.Errno) {
	n, err := read(l.arena, id)
	if err != api.OK {
		return api.Node{}, err
	}
	if _, again := l.met[id]; again {
		return api.Node{}, api.ErrShapeChain
	}
	if n.Level != level {
		return api.Node{}, api.ErrShapeLevel
	}
	if err := node.Check(n, l.config); err != api.OK {
		return api.Node{}, err
	}
	if !liesAbove(n, low) {
		return api.Node{}, api.ErrShapeChain
	}
	l.keep(id, n, low)
	return n, api.OK
}

// liesAbove: is no key of a node below its low, and its high above that? An empty low bounds nothing.
func liesAbove(n api.Node, low []byte) bool {
	for _, key := range n.Keys {
		if bytes.Compare(key, low) < 0 {
			return false
		}
	}
	return len(n.High) == 0 || bytes.Compare(n.High, low) > 0
}

// keep takes a node up as the last one of the lowest chain.
func (l *look) keep(id int, n api.Node, low []byte) {
	s := spot{level: n.Level, low: low, width: len(n.Keys)}
	if n.Level > 0 {
		s.width, s.keys, s.kids = len(n.Kids), n.Keys, n.Kids
	}
	l.met[id] = s
	l.chains[len(l.chains)-1] = append(l.lowest(), id)
}

// stray is the first node above a level that has a kid which is not where it must be, or 0.
func (l *look) stray(level int) int {
	if len(l.chains) == 1 {
		return 0
	}
	for _, id := range l.chains[len(l.chains)-2] {
		up := l.met[id]
		for i, kid := range up.kids {
			s, is := l.met[kid]
			if !is || s.level != level || !bytes.Equal(s.low, up.ahead(i)) {
				return id
			}
		}
	}
	return 0
}

// ahead is the key ahead of a kid: what the kid's keys may not be below.
func (s spot) ahead(kid int) []byte {
	if kid == 0 {
		return s.low
	}
	return s.keys[kid-1]
}

// firstBelow is the node that the level below the lowest chain begins with. An inner node that was met may be: so it has a kid.
func (l *look) firstBelow() int {
	return l.met[l.lowest()[0]].kids[0]
}

// sound is what is told of a tree in which nothing is wrong.
func (l *look) sound() api.Report {
	return api.Report{Sound: true, Levels: len(l.chains), Nodes: len(l.met), Entries: l.width(l.lowest())}
}

// lowest is the chain of the lowest level that was come to.
func (l *look) lowest() []int { return l.chains[len(l.chains)-1] }

// width is how many the nodes of a chain have together.
func (l *look) width(chain []int) int {
	sum := 0
	for _, id := range chain {
		sum += l.met[id].width
	}
	return sum
}
