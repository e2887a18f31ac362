package shape

// topPacked: does the root stand alone, with something to be above?
func (l *look) topPacked() bool {
	top := l.chains[0]
	return len(top) == 1 && (len(l.chains) == 1 || l.width(top) >= 2)
}

// innerPacked: is each level above the leaves full, and each node below it somebody's child?
func (l *look) innerPacked() bool {
	for i, below := range l.chains[1:] {
		chain := l.chains[i]
		// In a sound tree no node is a child twice: so it is enough to count them.
		if !l.full(chain, l.config.Inner) || l.width(chain) != len(below) {
			return false
		}
	}
	return true
}

// leavesPacked: are the leaves full, with a rest in the last one?
func (l *look) leavesPacked() bool {
	leaves := l.lowest()
	rest := l.met[leaves[len(leaves)-1]].width
	return l.full(leaves, l.config.Fill) && rest <= l.config.Fill && (rest >= 1 || len(leaves) == 1)
}

// full: has each node of a chain so many, but the last one, which has the rest?
func (l *look) full(chain []int, width int) bool {
	for _, id := range chain[:len(chain)-1] {
		if l.met[id].width != width {
			return false
		}
	}
	return true
}
