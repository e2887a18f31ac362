package shape_test

import (
	"bytes"
	"slices"

	"coppice/api"
	"coppice/node"
)

// wordsCheck is what Check is to tell of a tree, by the chapter's words, held being the latches that are.
func wordsCheck(x tree, c api.Config, held []int) api.Report {
	if node.Config(c) != api.OK {
		return api.Report{Err: api.ErrArg}
	}
	if len(held) > 0 {
		return api.Report{Node: slices.Min(held), Err: api.ErrArenaLatch}
	}
	var met, above []int
	lows := map[int][]byte{}
	top := x.nodes[x.root-1].Level
	first, nodes := x.root, 0
	for level := top; ; level-- {
		chain, err := wordsChain(x, c, first, level, met, lows)
		if err != api.OK {
			return api.Report{Node: chain[len(chain)-1], Err: err}
		}
		if up := wordsKids(x, above, chain, lows); up != 0 {
			return api.Report{Node: up, Err: api.ErrShapeChild}
		}
		met, above, nodes = append(met, chain...), chain, nodes+len(chain)
		if level == 0 {
			break
		}
		first = x.nodes[chain[0]-1].Kids[0]
	}
	entries := 0
	for _, id := range above {
		entries += len(x.nodes[id-1].Keys)
	}
	return api.Report{Sound: true, Levels: top + 1, Nodes: nodes, Entries: entries}
}

// wordsChain is the chain of a level, up to the node that is wrong, and that one's error.
func wordsChain(x tree, c api.Config, first int, level int, met []int, lows map[int][]byte) ([]int, api.Errno) {
	var chain []int
	var low []byte
	for id := first; ; id = x.nodes[id-1].Right {
		before := slices.Contains(met, id) || slices.Contains(chain, id)
		chain = append(chain, id)
		if !x.has(id) {
			return chain, api.ErrArenaNode
		}
		n := x.nodes[id-1]
		belowLow := func(k []byte) bool { return string(k) < string(low) }
		switch {
		case before:
			return chain, api.ErrShapeChain
		case n.Level != level:
			return chain, api.ErrShapeLevel
		case node.Check(n, c) != api.OK:
			return chain, api.ErrNodeForm
		case len(low) > 0 && slices.ContainsFunc(n.Keys, belowLow):
			return chain, api.ErrShapeChain
		case len(low) > 0 && len(n.High) > 0 && string(n.High) <= string(low):
			return chain, api.ErrShapeChain
		}
		lows[id] = low
		if n.Right == 0 {
			return chain, api.OK
		}
		low = n.High
	}
}

// wordsKids is the first node above whose Kids are not where they must be, or 0.
func wordsKids(x tree, above []int, chain []int, lows map[int][]byte) int {
	for _, up := range above {
		n := x.nodes[up-1]
		ahead := append([][]byte{lows[up]}, n.Keys...)
		for i, kid := range n.Kids {
			if !slices.Contains(chain, kid) || !bytes.Equal(lows[kid], ahead[i]) {
				return up
			}
		}
	}
	return 0
}

// wordsMap is what Map is to tell of a tree, from a node on, by the chapter's words.
func wordsMap(x tree, id int, met []int) []api.Entry {
	if !x.has(id) || slices.Contains(met, id) {
		return nil
	}
	n := x.nodes[id-1]
	fromLeaf := len(met) > 0 && x.nodes[met[len(met)-1]-1].Level <= 0
	met = append(met, id)
	if n.Level > 0 {
		if fromLeaf || len(n.Kids) == 0 {
			return nil
		}
		return wordsMap(x, n.Kids[0], met)
	}
	var out []api.Entry
	for i, k := range n.Keys {
		e := api.Entry{Key: k}
		if len(n.Values) > i {
			e.Value = n.Values[i]
		}
		out = append(out, e)
	}
	return append(out, wordsMap(x, n.Right, met)...)
}

// wordsPacked is what Packed is to answer of a sound tree, by the chapter's words.
func wordsPacked(x tree, c api.Config) bool {
	root := x.nodes[x.root-1]
	if root.Right != 0 || root.Level > 0 && len(root.Kids) < 2 {
		return false
	}
	for first := x.root; ; {
		n := x.nodes[first-1]
		kids, nodes := 0, 0
		for id := first; id != 0; id = n.Right {
			n = x.nodes[id-1]
			kids, nodes = kids+len(n.Kids), nodes+1
			switch {
			case n.Level > 0 && n.Right != 0 && len(n.Kids) != c.Inner:
				return false
			case n.Level == 0 && n.Right != 0 && len(n.Keys) != c.Fill:
				return false
			case n.Level == 0 && n.Right == 0 && len(n.Keys) > c.Fill:
				return false
			case n.Level == 0 && n.Right == 0 && nodes > 1 && len(n.Keys) == 0:
				return false
			}
		}
		if n.Level == 0 {
			return true
		}
		first = x.nodes[first-1].Kids[0]
		below := 0
		for id := first; id != 0; id = x.nodes[id-1].Right {
			below++
		}
		if below != kids {
			return false
		}
	}
}
