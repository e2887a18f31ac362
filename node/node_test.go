package node_test

import (
	"bytes"
	"math"
	"slices"
	"strconv"
	"strings"
	"testing"

	"coppice/api"
	"coppice/node"
)

// The rows of the chapter's table of examples.
func TestExamples(t *testing.T) {
	three := api.Node{Body: api.Body{Keys: texts("b", "d", "f")}}
	for _, c := range []struct {
		key   string
		count int
		there bool
	}{{"d", 1, true}, {"e", 2, false}, {"a", 0, false}} {
		if count, there := node.Find(three, []byte(c.key)); count != c.count || there != c.there {
			t.Errorf("Find of %s: %d, %v", c.key, count, there)
		}
	}
	for i, key := range []string{"a", "b", "z"} {
		if kid := node.Child(inner(texts("b", "d"), 7, 8, 9), []byte(key)); kid != 7+i {
			t.Errorf("Child of %s: %d", key, kid)
		}
	}
	two := entries("b", "1", "d", "2")
	if n := node.With(two, []byte("c"), []byte("3")); !same(n, entries("b", "1", "c", "3", "d", "2")) {
		t.Errorf("With c: %s", told(n))
	}
	if n := node.With(two, []byte("d"), []byte("4")); !same(n, entries("b", "1", "d", "4")) {
		t.Errorf("With d: %s", told(n))
	}
	up := inner(texts("m"), 2, 3)
	if n, is := node.Joined(up, []byte("g"), 5); !same(n, inner(texts("g", "m"), 2, 5, 3)) || !is {
		t.Errorf("Joined of g: %s, %v", told(n), is)
	}
	if n, is := node.Joined(up, []byte("m"), 5); !same(n, up) || is {
		t.Errorf("Joined of m: %s, %v", told(n), is)
	}
	checkSplit(t, leaf("x", 4, "a", "b", "c"), 9, leaf("c", 9, "a", "b"), leaf("x", 4, "c"), "c")
	checkSplit(t, inner(texts("b", "d", "f"), 1, 2, 3, 4), 9, bounded(inner(texts("b"), 1, 2), "d", 9), inner(texts("f"), 3, 4), "d")
	badCheck(t, "b, a", leaf("", 0, "b", "a"), config())
	badCheck(t, "High and no Right", leaf("x", 0, "a"), config())
}

// Config: each number at its bounds, below and above them.
func TestConfig(t *testing.T) {
	turns := []struct {
		what        string
		in          func(c *api.Config) *int
		least, most int
	}{
		{"Nodes", func(c *api.Config) *int { return &c.Nodes }, 1, 65536},
		{"Leaf", func(c *api.Config) *int { return &c.Leaf }, 2, 64},
		{"Inner", func(c *api.Config) *int { return &c.Inner }, 3, 64},
		{"Fill", func(c *api.Config) *int { return &c.Fill }, 1, 4},
		{"Block", func(c *api.Config) *int { return &c.Block }, 1, 64},
	}
	for _, u := range turns {
		for _, n := range []int{math.MinInt, -1, 0, 1, 2, 3, 4, 5, 63, 64, 65, 66, 65535, 65536, 65537, 1<<32 + 4, math.MaxInt} {
			c := config()
			if u.what == "Leaf" {
				c.Fill = 1
			}
			*u.in(&c) = n
			want := api.OK
			if n < u.least || n > u.most {
				want = api.ErrArg
			}
			if err := node.Config(c); err != want {
				t.Errorf("%s %d: %d", u.what, n, err)
			}
		}
	}
	if err := node.Config(api.Config{}); err != api.ErrArg {
		t.Errorf("none: %d", err)
	}
}

// Config: Fill hangs on Leaf.
func TestConfigFill(t *testing.T) {
	for leaf := 2; leaf <= 64; leaf++ {
		for fill := range 67 {
			c := api.Config{Nodes: 65536, Leaf: leaf, Inner: 64, Fill: fill, Block: 64}
			if good := node.Config(c) == api.OK; good != (fill >= 1 && fill <= leaf) {
				t.Errorf("Leaf %d, Fill %d: %v", leaf, fill, good)
			}
		}
	}
	if err := node.Config(api.Config{Nodes: 1, Leaf: 2, Inner: 3, Fill: 1, Block: 1}); err != api.OK {
		t.Errorf("the least: %d", err)
	}
}

// Check: a configuration that may not be is told ahead of the node.
func TestCheckConfig(t *testing.T) {
	for _, turn := range []func(c *api.Config){
		func(c *api.Config) { c.Nodes = 0 }, func(c *api.Config) { c.Leaf = 65 }, func(c *api.Config) { c.Inner = 2 },
		func(c *api.Config) { c.Fill = 5 }, func(c *api.Config) { c.Block = 0 }, func(c *api.Config) { *c = api.Config{} },
	} {
		c := config()
		turn(&c)
		for _, n := range []api.Node{{}, leaf("x", 2, "a"), leaf("x", 0, "b", "a"), inner(nil)} {
			if err := node.Check(n, c); err != api.ErrArg {
				t.Errorf("Check of %s in %v: %d", told(n), c, err)
			}
		}
	}
}

// Check: Level, Right and High, each at its bounds, the others right.
func TestCheckHead(t *testing.T) {
	c := config()
	goodCheck(t, "a zero node", api.Node{}, c)
	for _, level := range []int{1, 2, 31, 32} {
		n := inner(texts("b"), 1, 2)
		n.Level = level
		goodCheck(t, "Level", n, c)
	}
	for _, level := range []int{-1, 33, 34, 64, 256, 1 << 32, math.MinInt, math.MaxInt} {
		n := inner(texts("b"), 1, 2)
		n.Level = level
		badCheck(t, "Level", n, c)
		n = leaf("", 0, "a")
		n.Level = level
		badCheck(t, "Level of a leaf", n, c)
	}
	for _, nodes := range []int{1, 9, 65536} {
		c.Nodes = nodes
		goodCheck(t, "Right 1", leaf("x", 1, "a"), c)
		goodCheck(t, "the last Right", leaf("x", nodes, "a"), c)
		for _, right := range []int{-1, nodes + 1, nodes + 2, 1 << 32, math.MinInt, math.MaxInt} {
			badCheck(t, "Right", leaf("x", right, "a"), c)
			badCheck(t, "Right, no High", leaf("", right, "a"), c)
		}
	}
	for _, n := range []api.Node{leaf("x", 3, "a"), leaf("x", 3), bounded(inner(texts("b"), 1, 2), "x", 3), bounded(inner(nil, 1), "x", 3)} {
		goodCheck(t, "both", n, c)
		badCheck(t, "High and no Right", bounded(n, "x", 0), c)
		badCheck(t, "Right and no High", bounded(n, "", 3), c)
		goodCheck(t, "none", bounded(n, "", 0), c)
		for _, size := range []int{1, 2, 63, 64} {
			goodCheck(t, "High", bounded(n, strings.Repeat("z", size), 3), c)
		}
		for _, size := range []int{65, 66, 128, 5000} {
			badCheck(t, "High", bounded(n, strings.Repeat("z", size), 3), c)
		}
	}
}

// of is a node of those keys, as a leaf or as an inner node.
func of(level int, high string, keys ...string) api.Node {
	n := leaf(high, 3, keys...)
	if high == "" {
		n.Right = 0
	}
	if level > 0 {
		n.Level, n.Values = level, nil
		for i := range len(keys) + 1 {
			n.Kids = append(n.Kids, i+1)
		}
	}
	return n
}

// Check: a key's bytes, that keys rise, and that High is above them.
func TestCheckKeys(t *testing.T) {
	c := config()
	for _, level := range []int{0, 1, 32} {
		for _, size := range []int{1, 2, 63, 64} {
			k := strings.Repeat("b", size)
			goodCheck(t, "key", of(level, "", k), c)
			goodCheck(t, "key", of(level, "", "a", k, "c"), c)
			goodCheck(t, "key", of(level, "c", "a", k), c)
		}
		for _, size := range []int{0, 65, 66, 5000} {
			k := strings.Repeat("b", size)
			badCheck(t, "key", of(level, "", k), c)
			badCheck(t, "key", of(level, "c", k), c)
		}
		badCheck(t, "key", of(level, "", strings.Repeat("b", 65), "c"), c)
		badCheck(t, "key", of(level, "", "a", strings.Repeat("b", 65), "c"), c)
		badCheck(t, "key", of(level, "", "a", "b", strings.Repeat("c", 65)), c)
		goodCheck(t, "three", of(level, "d", "a", "b", "c"), c)
		goodCheck(t, "bytes", of(level, "\xff", "\x00", "\x7f", "\x80"), c)
		goodCheck(t, "beginnings", of(level, "aaa\x00", "a", "aa", "aaa"), c)
		for _, keys := range [][]string{{"b", "a"}, {"a", "a"}, {"a", "c", "b"}, {"b", "a", "c"}, {"a", "b", "b"}, {"a", "b", "a"}, {"aa", "a"}, {"\x80", "\x7f"}} {
			badCheck(t, "do not rise", of(level, "", keys...), c)
			badCheck(t, "do not rise", of(level, "x", keys...), c)
		}
		goodCheck(t, "below High", of(level, "c\x00", "a", "b", "c"), c)
		for _, high := range []string{"c", "bz", "b", "a", "A", "\x00"} {
			badCheck(t, "not below High", of(level, high, "a", "b", "c"), c)
		}
		badCheck(t, "the one at High", of(level, "c", "c"), c)
	}
}

// Check: a leaf's Values and Kids.
func TestCheckLeaf(t *testing.T) {
	c := config()
	goodCheck(t, "no keys", leaf("", 0), c)
	for count := range 8 {
		for most := 2; most <= 7; most++ {
			c.Leaf, c.Inner = most, 3
			n := leaf("", 0, []string{"a", "b", "c", "d", "e", "f", "g"}[:min(count, 7)]...)
			if good := node.Check(n, c) == api.OK; good != (len(n.Keys) <= most) {
				t.Errorf("%d keys of %d: %v", count, most, good)
			}
		}
	}
	c = config()
	for _, values := range [][]string{{}, {"1"}, {"1", "2", "3"}} {
		n := leaf("", 0, "a", "b")
		n.Values = texts(values...)
		badCheck(t, "another number of Values", n, c)
	}
	badCheck(t, "Values alone", api.Node{Body: api.Body{Values: texts("")}}, c)
	for at := range 3 {
		for _, size := range []int{0, 1, 255, 256} {
			n := leaf("", 0, "a", "b", "c")
			n.Values[at] = bytes.Repeat([]byte{7}, size)
			goodCheck(t, "value", n, c)
		}
		for _, size := range []int{257, 258, 512, 70000} {
			n := leaf("", 0, "a", "b", "c")
			n.Values[at] = bytes.Repeat([]byte{7}, size)
			badCheck(t, "value", n, c)
		}
	}
	for _, kids := range [][]int{{1}, {0}, {1, 2, 3}} {
		n := leaf("", 0, "a", "b")
		n.Kids = kids
		badCheck(t, "a leaf with Kids", n, c)
		badCheck(t, "a leaf with nothing but Kids", api.Node{Body: api.Body{Kids: kids}}, c)
	}
}

// Check: an inner node's Values and Kids.
func TestCheckInner(t *testing.T) {
	c := config()
	keys := texts("b", "d", "f", "h", "j", "l", "n")
	for count := range 8 {
		for most := 3; most <= 8; most++ {
			c.Inner, c.Leaf, c.Fill = most, 2, 1
			n := inner(keys[:count], []int{1, 2, 3, 4, 5, 6, 7, 8}[:count+1]...)
			if good := node.Check(n, c) == api.OK; good != (count+1 <= most) {
				t.Errorf("%d kids of %d: %v", count+1, most, good)
			}
		}
	}
	c = config()
	for _, kids := range [][]int{{}, {1}, {1, 2}, {1, 2, 3, 4}} {
		badCheck(t, "another number of Kids", inner(keys[:2], kids...), c)
	}
	badCheck(t, "neither Keys nor Kids", inner(nil), c)
	badCheck(t, "Kids without Keys", inner(nil, 1, 2), c)
	for at := range 3 {
		for _, kid := range []int{4, 8, 9} {
			n := inner(keys[:2], 1, 2, 3)
			n.Kids[at] = kid
			goodCheck(t, "kid", n, c)
		}
		for _, kid := range []int{0, -1, 10, 11, 1 << 32, 1<<32 + 5, math.MinInt, math.MaxInt} {
			n := inner(keys[:2], 1, 2, 3)
			n.Kids[at] = kid
			badCheck(t, "kid", n, c)
		}
		n := inner(keys[:2], 1, 2, 3)
		n.Kids[at] = n.Kids[(at+1)%3]
		badCheck(t, "two alike", n, c)
	}
	for _, values := range [][]string{{""}, {"1", "2"}} {
		n := inner(keys[:2], 1, 2, 3)
		n.Values = texts(values...)
		badCheck(t, "an inner node with Values", n, c)
	}
}

// Check: nodes at the greatest bounds, and one beyond.
func TestCheckGreatest(t *testing.T) {
	c := api.Config{Nodes: 65536, Leaf: 64, Inner: 64, Fill: 64, Block: 64}
	d := dice(90)
	keys := d.keys(65, false)
	n := api.Node{Body: api.Body{Keys: keys[:64], Values: d.values(64)}}
	goodCheck(t, "64 entries", n, c)
	n.Keys, n.Values = keys, d.values(65)
	badCheck(t, "65 entries", n, c)
	kids := d.kids(65, 65536)
	kids[63] = 65536
	goodCheck(t, "64 kids", inner(keys[:63], kids[:64]...), c)
	badCheck(t, "65 kids", inner(keys[:64], kids...), c)
	kids[63] = kids[0]
	badCheck(t, "the first and the last alike", inner(keys[:63], kids[:64]...), c)
}

// Check: any nodes, such as are nearly right among them.
func TestCheckAny(t *testing.T) {
	d := dice(91)
	good := 0
	for range 60000 {
		c := d.config()
		n := d.mayBe(c)
		for range d.below(3) {
			switch d.below(8) {
			case 0:
				n.Level = d.pick(-1, 0, 1, 32, 33)
			case 1:
				n.Right = d.pick(-1, 0, 1, c.Nodes, c.Nodes+1)
			case 2:
				n.High = d.text(d.pick(0, 1, 64, 65))
			case 3:
				n.Keys = append(n.Keys, d.text(d.pick(0, 1, 64, 65)))
			case 4:
				n.Values = append(n.Values, d.text(d.pick(0, 256, 257)))
			case 5:
				n.Kids = append(n.Kids, d.pick(-1, 0, 1, c.Nodes, c.Nodes+1))
			case 6:
				n.Keys = n.Keys[:d.below(len(n.Keys)+1)]
			case 7:
				c.Leaf, c.Fill, c.Inner = 2+d.below(8), 1, 3+d.below(8)
			}
		}
		want := api.ErrNodeForm
		if mayBe(n, c) {
			want = api.OK
			good++
		}
		if err := node.Check(n, c); err != want {
			t.Fatalf("Check of %s in %v: %d, want %d", told(n), c, err, want)
		}
	}
	if good < 10000 || good > 50000 {
		t.Errorf("%d that may be", good)
	}
	for range 20000 {
		c, n := d.config(), d.any()
		if good := node.Check(n, c) == api.OK; good != mayBe(n, c) {
			t.Fatalf("Check of %s in %v: %v", told(n), c, good)
		}
	}
}

// Clone: of any node the same.
func TestClone(t *testing.T) {
	if n := node.Clone(api.Node{}); !isZero(n) {
		t.Errorf("%s", told(n))
	}
	d := dice(92)
	for i := range 2000 {
		n := d.any()
		if i%2 == 0 {
			n = d.right(d.below(3), d.below(70))
		}
		if got := node.Clone(n); !same(got, n) {
			t.Fatalf("%s became %s", told(n), told(got))
		}
	}
}

// Beyond: at, below and above High, an empty High, an empty key; keys do not count.
func TestBeyond(t *testing.T) {
	for _, c := range []struct {
		high, key string
		want      bool
	}{
		{"", "", false}, {"", "a", false}, {"", "\xff", false},
		{"m", "", false}, {"m", "l", false}, {"m", "lz", false}, {"m", "m", true}, {"m", "m\x00", true}, {"m", "n", true}, {"m", "M", false},
		{"mm", "m", false}, {"mm", "mm", true}, {"mm", "mn", true}, {"mm", "n", true}, {"mm", "ml\xff", false},
		{"\x80", "\x7f\xff", false}, {"\x80", "\xff", true}, {"\x00", "", false}, {"\x00", "\x00", true},
	} {
		for _, n := range []api.Node{leaf(c.high, 0), leaf(c.high, 7, "a", "zz"), bounded(inner(texts("zz"), 1, 2), c.high, 3)} {
			if got := node.Beyond(n, []byte(c.key)); got != c.want {
				t.Errorf("%q, High %q: %v", c.key, c.high, got)
			}
		}
	}
	d := dice(93)
	for range 3000 {
		n := d.any()
		for _, key := range near(n) {
			if got := node.Beyond(n, key); got != (len(n.High) > 0 && !less(key, n.High)) {
				t.Fatalf("%q, High %q: %v", key, n.High, got)
			}
		}
	}
}

// Find: a key at, between, ahead of and behind a node's keys; of nodes of any form too.
func TestFind(t *testing.T) {
	for _, c := range []struct {
		keys  []string
		key   string
		count int
		there bool
	}{
		{nil, "", 0, false}, {nil, "a", 0, false},
		{[]string{"b"}, "", 0, false}, {[]string{"b"}, "a", 0, false}, {[]string{"b"}, "b", 0, true}, {[]string{"b"}, "c", 1, false},
		{[]string{"", "b"}, "", 0, true}, {[]string{"", "b"}, "a", 1, false}, {[]string{"", "b"}, "b", 1, true},
		{[]string{"a", "aa", "ab", "b"}, "a", 0, true}, {[]string{"a", "aa", "ab", "b"}, "a\x00", 1, false}, {[]string{"a", "aa", "ab", "b"}, "aaa", 2, false},
		{[]string{"a", "aa", "ab", "b"}, "ab", 2, true}, {[]string{"a", "aa", "ab", "b"}, "b", 3, true}, {[]string{"a", "aa", "ab", "b"}, "ba", 4, false},
		{[]string{"\x7f", "\x80", "\xff"}, "\x80", 1, true}, {[]string{"\x7f", "\x80", "\xff"}, "\x90", 2, false},
		{[]string{"d", "b", "f"}, "c", 1, false}, {[]string{"d", "b", "f"}, "d", 1, true}, {[]string{"d", "b", "f", "a"}, "a", 0, true}, {[]string{"c", "c", "a"}, "c", 1, true},
		{[]string{"c", "a", "a"}, "b", 2, false}, {[]string{"a", "a", "a"}, "a", 0, true},
	} {
		for level := range 2 {
			n := api.Node{Head: api.Head{Level: level, High: []byte("a")}, Body: api.Body{Keys: texts(c.keys...)}}
			if count, there := node.Find(n, []byte(c.key)); count != c.count || there != c.there {
				t.Errorf("%q in %q: %d, %v", c.key, c.keys, count, there)
			}
		}
	}
	d := dice(94)
	for i := range 2000 {
		n := d.any()
		if i%2 == 0 {
			n = d.right(d.below(3), d.below(40))
		}
		for _, key := range near(n) {
			want, is := 0, false
			for _, k := range n.Keys {
				if less(k, key) {
					want++
				}
				is = is || string(k) == string(key)
			}
			if count, there := node.Find(n, key); count != want || there != is {
				t.Fatalf("%q in %q: %d, %v", key, n.Keys, count, there)
			}
		}
	}
}

// Child: no Kids, as many as there must be, too few, too many; keys of any order.
func TestChild(t *testing.T) {
	three := texts("b", "d", "f")
	for _, c := range []struct {
		keys [][]byte
		kids []int
		key  string
		want int
	}{
		{nil, nil, "a", 0}, {three, nil, "a", 0}, {three, nil, "z", 0},
		{nil, []int{7}, "", 7}, {nil, []int{7}, "z", 7}, {nil, []int{7, 8}, "z", 7},
		{three, []int{5, 6, 7, 8}, "", 5}, {three, []int{5, 6, 7, 8}, "a\xff", 5}, {three, []int{5, 6, 7, 8}, "b", 6}, {three, []int{5, 6, 7, 8}, "c", 6},
		{three, []int{5, 6, 7, 8}, "d", 7}, {three, []int{5, 6, 7, 8}, "e\xff", 7}, {three, []int{5, 6, 7, 8}, "f", 8}, {three, []int{5, 6, 7, 8}, "\xff", 8},
		{three, []int{5, 6, 7}, "f", 7}, {three, []int{5, 6, 7}, "e", 7}, {three, []int{5, 6, 7}, "c", 6},
		{three, []int{5}, "a", 5}, {three, []int{5}, "z", 5}, {three, []int{5, 6}, "z", 6},
		{three, []int{5, 6, 7, 8, 9}, "z", 8},
		{texts("f", "b", "d"), []int{5, 6, 7, 8}, "c", 6}, {texts("f", "b", "d"), []int{5, 6, 7, 8}, "d", 7}, {texts("b", "b"), []int{5, 6, 7}, "b", 7},
		{texts("", "b"), []int{5, 6, 7}, "", 6}, {three, []int{-5, 0, 0, 0}, "a", -5},
	} {
		for _, level := range []int{0, 1, 5, -1} {
			n := api.Node{Head: api.Head{Level: level}, Body: api.Body{Keys: c.keys, Kids: c.kids}}
			if kid := node.Child(n, []byte(c.key)); kid != c.want {
				t.Errorf("%q among %q and %v: %d", c.key, c.keys, c.kids, kid)
			}
		}
	}
	d := dice(95)
	for range 3000 {
		n := d.any()
		for _, key := range near(n) {
			want, i := 0, 0
			for _, k := range n.Keys {
				if !less(key, k) {
					i++
				}
			}
			switch {
			case i < len(n.Kids):
				want = n.Kids[i]
			case len(n.Kids) > 0:
				want = n.Kids[len(n.Kids)-1]
			}
			if kid := node.Child(n, key); kid != want {
				t.Fatalf("%q among %q and %v: %d", key, n.Keys, n.Kids, kid)
			}
		}
	}
}

// With: a key that is there and one that is not, at each place; the head stays.
func TestWith(t *testing.T) {
	three := []string{"b", "1", "d", "2", "f", "3"}
	for _, c := range []struct {
		have       []string
		key, value string
		want       []string
	}{
		{nil, "a", "9", []string{"a", "9"}}, {nil, "", "", []string{"", ""}},
		{three, "a", "9", []string{"a", "9", "b", "1", "d", "2", "f", "3"}}, {three, "b", "9", []string{"b", "9", "d", "2", "f", "3"}},
		{three, "c", "9", []string{"b", "1", "c", "9", "d", "2", "f", "3"}}, {three, "d", "9", []string{"b", "1", "d", "9", "f", "3"}},
		{three, "e", "9", []string{"b", "1", "d", "2", "e", "9", "f", "3"}}, {three, "f", "9", []string{"b", "1", "d", "2", "f", "9"}},
		{three, "g", "9", []string{"b", "1", "d", "2", "f", "3", "g", "9"}}, {three, "", "9", []string{"", "9", "b", "1", "d", "2", "f", "3"}},
		{three, "d", "", []string{"b", "1", "d", "", "f", "3"}}, {three, "d\x00", "", []string{"b", "1", "d", "2", "d\x00", "", "f", "3"}},
		{[]string{"", "1"}, "", "9", []string{"", "9"}}, {[]string{"", "1"}, "\x00", "9", []string{"", "1", "\x00", "9"}},
		{[]string{"\x7f", "1", "\xff", "2"}, "\x80", "9", []string{"\x7f", "1", "\x80", "9", "\xff", "2"}},
	} {
		for _, high := range []string{"", "a", "z"} {
			n := bounded(entries(c.have...), high, 6)
			if got := node.With(n, []byte(c.key), []byte(c.value)); !same(got, bounded(entries(c.want...), high, 6)) {
				t.Errorf("%q %q in %q: %s", c.key, c.value, c.have, told(got))
			}
		}
	}
}

// Without: a key that is there and one that is not, at each place; the head stays.
func TestWithout(t *testing.T) {
	three := []string{"b", "1", "d", "2", "f", "3"}
	for _, c := range []struct {
		have []string
		key  string
		want []string
		is   bool
	}{
		{nil, "a", nil, false}, {nil, "", nil, false}, {[]string{"a", "1"}, "a", nil, true}, {[]string{"", "1"}, "", nil, true},
		{[]string{"a", "1"}, "", []string{"a", "1"}, false}, {[]string{"a", "1"}, "a\x00", []string{"a", "1"}, false},
		{three, "b", []string{"d", "2", "f", "3"}, true}, {three, "d", []string{"b", "1", "f", "3"}, true}, {three, "f", []string{"b", "1", "d", "2"}, true},
		{three, "a", three, false}, {three, "c", three, false}, {three, "e", three, false}, {three, "g", three, false}, {three, "", three, false},
	} {
		for _, high := range []string{"", "a", "z"} {
			n := bounded(entries(c.have...), high, 6)
			if got, is := node.Without(n, []byte(c.key)); !same(got, bounded(entries(c.want...), high, 6)) || is != c.is {
				t.Errorf("%q in %q: %s, %v", c.key, c.have, told(got), is)
			}
		}
	}
}

// Joined: a key that is there and one that is not, at each place; the head stays.
func TestJoined(t *testing.T) {
	three := texts("b", "d", "f")
	for _, c := range []struct {
		keys [][]byte
		kids []int
		key  string
		want [][]byte
		into []int
		is   bool
	}{
		{nil, []int{1}, "a", texts("a"), []int{1, 9}, true}, {nil, []int{1}, "", texts(""), []int{1, 9}, true},
		{three, []int{1, 2, 3, 4}, "", texts("", "b", "d", "f"), []int{1, 9, 2, 3, 4}, true},
		{three, []int{1, 2, 3, 4}, "a", texts("a", "b", "d", "f"), []int{1, 9, 2, 3, 4}, true},
		{three, []int{1, 2, 3, 4}, "c", texts("b", "c", "d", "f"), []int{1, 2, 9, 3, 4}, true},
		{three, []int{1, 2, 3, 4}, "e", texts("b", "d", "e", "f"), []int{1, 2, 3, 9, 4}, true},
		{three, []int{1, 2, 3, 4}, "g", texts("b", "d", "f", "g"), []int{1, 2, 3, 4, 9}, true},
		{three, []int{1, 2, 3, 9}, "g", texts("b", "d", "f", "g"), []int{1, 2, 3, 9, 9}, true},
		{three, []int{1, 2, 3, 4}, "b", three, []int{1, 2, 3, 4}, false}, {three, []int{1, 2, 3, 4}, "d", three, []int{1, 2, 3, 4}, false},
		{three, []int{1, 2, 3, 4}, "f", three, []int{1, 2, 3, 4}, false}, {texts(""), []int{1, 2}, "", texts(""), []int{1, 2}, false},
	} {
		for _, level := range []int{1, 2, 32, 40} {
			n, want := bounded(inner(c.keys, c.kids...), "c", 6), bounded(inner(c.want, c.into...), "c", 6)
			n.Level, want.Level = level, level
			if got, is := node.Joined(n, []byte(c.key), 9); !same(got, want) || is != c.is {
				t.Errorf("%q among %q: %s, %v", c.key, c.keys, told(got), is)
			}
		}
	}
	for _, kid := range []int{0, -1, math.MinInt, math.MaxInt} {
		if got, is := node.Joined(inner(nil, 1), []byte("a"), kid); !same(got, inner(texts("a"), 1, kid)) || !is {
			t.Errorf("%d: %s, %v", kid, told(got), is)
		}
	}
}

// Over: keys of a leaf, Kids of each other node, whatever else there is; c's other numbers do not count.
func TestOver(t *testing.T) {
	for _, most := range []int{math.MinInt, -1, 0, 1, 2, 3, 5, 6, 7, 70, math.MaxInt} {
		for count := range 8 {
			for others := range 8 {
				keys, values, kids := make([][]byte, count), make([][]byte, others), make([]int, others)
				n := api.Node{Body: api.Body{Keys: keys, Values: values, Kids: kids}}
				for _, c := range []api.Config{{Leaf: most, Inner: 3}, {Leaf: most, Inner: 70, Nodes: -1, Fill: -1, Block: -1}, {Leaf: most}} {
					if got := node.Over(n, c); got != (count > most) {
						t.Errorf("%d keys of %d: %v", count, most, got)
					}
				}
				n = api.Node{Body: api.Body{Keys: make([][]byte, others), Values: values, Kids: make([]int, count)}}
				for _, n.Level = range []int{1, 2, 32, 33, -1, math.MinInt, math.MaxInt} {
					for _, c := range []api.Config{{Leaf: 3, Inner: most}, {Leaf: 70, Inner: most, Nodes: -1, Fill: -1, Block: -1}, {Inner: most}} {
						if got := node.Over(n, c); got != (count > most) {
							t.Errorf("%d kids of %d: %v", count, most, got)
						}
					}
				}
			}
		}
	}
}

// checkSplit holds Split of a node against both halves and the key between.
func checkSplit(t *testing.T, n api.Node, right int, left, rest api.Node, between string) {
	t.Helper()
	l, r, k := node.Split(n, right)
	if !same(l, left) || !same(r, rest) || string(k) != between {
		t.Errorf("Split of %s: %s, %s, %q; want %s, %s, %q", told(n), told(l), told(r), k, told(left), told(rest), between)
	}
}

// Split: of a leaf of 0, 1, 2, 3 and many.
func TestSplitLeaf(t *testing.T) {
	for _, n := range []api.Node{leaf("", 0), leaf("x", 4), leaf("", 0, "a"), leaf("x", 4, "a"), leaf("x", 4, "")} {
		checkSplit(t, n, 9, n, api.Node{}, "")
	}
	checkSplit(t, leaf("x", 4, "a", "b"), 9, leaf("b", 9, "a"), leaf("x", 4, "b"), "b")
	checkSplit(t, leaf("", 0, "a", "b"), 9, leaf("b", 9, "a"), leaf("", 0, "b"), "b")
	checkSplit(t, leaf("", 0, "", "b"), 9, leaf("b", 9, ""), leaf("", 0, "b"), "b")
	checkSplit(t, leaf("", 0, "a", "b", "c"), 9, leaf("c", 9, "a", "b"), leaf("", 0, "c"), "c")
	checkSplit(t, leaf("x", 4, "a", "b", "c", "d"), 9, leaf("c", 9, "a", "b"), leaf("x", 4, "c", "d"), "c")
	checkSplit(t, leaf("x", 4, "a", "b", "c", "d", "e"), 9, leaf("d", 9, "a", "b", "c"), leaf("x", 4, "d", "e"), "d")
	for _, right := range []int{0, 4, -1, math.MinInt, math.MaxInt} {
		checkSplit(t, leaf("x", 4, "a", "b"), right, leaf("b", right, "a"), leaf("x", 4, "b"), "b")
	}
	var keys []string
	for i := range 300 {
		keys = append(keys, strconv.Itoa(1000+i))
	}
	for m := 2; m <= 300; m++ {
		h := (m + 1) / 2
		checkSplit(t, leaf("x", 4, keys[:m]...), 9, leaf(keys[h], 9, keys[:h]...), leaf("x", 4, keys[h:m]...), keys[h])
	}
}

// Split: of an inner node of 1, 2, 3 and many Kids.
func TestSplitInner(t *testing.T) {
	for _, n := range []api.Node{inner(nil, 5), bounded(inner(nil, 5), "x", 4)} {
		checkSplit(t, n, 9, n, api.Node{}, "")
	}
	checkSplit(t, inner(texts("b"), 1, 2), 9, bounded(inner(nil, 1), "b", 9), inner(nil, 2), "b")
	checkSplit(t, inner(texts(""), 1, 2), 9, bounded(inner(nil, 1), "", 9), inner(nil, 2), "")
	checkSplit(t, bounded(inner(texts("b", "d"), 1, 2, 3), "x", 4), 9, bounded(inner(texts("b"), 1, 2), "d", 9), bounded(inner(nil, 3), "x", 4), "d")
	checkSplit(t, bounded(inner(texts("b", "d", "f", "h"), 1, 2, 3, 4, 5), "x", 4), 9, bounded(inner(texts("b", "d"), 1, 2, 3), "f", 9), bounded(inner(texts("h"), 4, 5), "x", 4), "f")
	var keys [][]byte
	var kids []int
	for i := range 300 {
		keys, kids = append(keys, []byte(strconv.Itoa(1000+i))), append(kids, 300-i)
	}
	for _, level := range []int{1, 2, 32, 100} {
		for m := 2; m <= 300; m++ {
			h := (m + 1) / 2
			n := bounded(inner(keys[:m-1], kids[:m]...), "x", 4)
			left, rest := bounded(inner(keys[:h-1], kids[:h]...), string(keys[h-1]), 9), bounded(inner(keys[h:m-1], kids[h:m]...), "x", 4)
			n.Level, left.Level, rest.Level = level, level, level
			checkSplit(t, n, 9, left, rest, string(keys[h-1]))
		}
	}
}

// rightForm tells by the chapter's words whether a node is right.
func rightForm(n api.Node) bool {
	for i := range n.Keys {
		if i > 0 && !less(n.Keys[i-1], n.Keys[i]) {
			return false
		}
	}
	if n.Level == 0 {
		return len(n.Values) == len(n.Keys) && len(n.Kids) == 0
	}
	return n.Level > 0 && len(n.Kids) == len(n.Keys)+1 && len(n.Values) == 0
}

// With, Without, Joined and Split of right nodes are right, many a key and value among them that may not be.
func TestRightStaysRight(t *testing.T) {
	d := dice(96)
	for count := range 80 {
		n, up := d.right(0, count), d.right(1+d.below(40), count)
		for _, n := range []api.Node{n, up} {
			if !rightForm(n) {
				t.Fatalf("%s is not right", told(n))
			}
			if l, r, _ := node.Split(n, 7); !rightForm(l) || !rightForm(r) && !isZero(r) {
				t.Fatalf("Split of %s: %s, %s", told(n), told(l), told(r))
			}
		}
		for _, key := range slices.Concat(near(n), near(up)) {
			if with := node.With(n, key, bytes.Repeat(key, 5)); !rightForm(with) {
				t.Fatalf("%q in %s: %s", key, told(n), told(with))
			}
			if without, _ := node.Without(n, key); !rightForm(without) {
				t.Fatalf("%q out of %s: %s", key, told(n), told(without))
			}
			if joined, _ := node.Joined(up, key, 7); !rightForm(joined) {
				t.Fatalf("%q among %s: %s", key, told(up), told(joined))
			}
		}
	}
}
