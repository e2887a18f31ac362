package sched_test

import (
	"fmt"
	"math"
	"slices"
	"testing"

	"coppice/api"
	"coppice/sched"
)

// fair is Fair as the chapter tells it: each window is gone through by itself.
func fair(picks []int, clients int, window int) bool {
	if clients < 0 || clients > 16 || window < 1 || window > 1000 {
		return false
	}
	for begin := 0; begin+window <= len(picks); begin++ {
		for number := range clients {
			if !slices.Contains(picks[begin:begin+window], number) {
				return false
			}
		}
	}
	return true
}

// All picks of up to seven, among them numbers that no client has, for all small numbers of clients and windows.
func TestFairSmall(t *testing.T) {
	seen := map[string]int{}
	numbers := []int{-1, 0, 1, 2}
	for count := range 8 {
		for order := range 1 << (2 * count) {
			picks := make([]int, count)
			for i := range picks {
				picks[i] = numbers[order>>(2*i)&3]
			}
			for clients := range 4 {
				for window := 1; window <= 8; window++ {
					want := fair(picks, clients, window)
					if got := sched.Fair(picks, clients, window); got != want {
						t.Fatalf("%d, %d clients, by %d: %v", picks, clients, window, got)
					}
					if window <= count {
						seen[fmt.Sprint(clients, want)]++
					}
				}
			}
		}
	}
	for _, what := range []string{"0 true", "1 true", "1 false", "2 true", "2 false", "3 true", "3 false"} {
		if seen[what] < 100 {
			t.Errorf("%s: %d", what, seen[what])
		}
	}
}

// Clients and windows at their bounds and beyond them.
func TestFairBounds(t *testing.T) {
	round := make([]int, 4000) // 0 to 15, again and again
	for i := range round {
		round[i] = i % 16
	}
	for _, x := range []struct {
		clients, window int
		want            bool
	}{
		{-1, 1, false}, {-1, 1000, false}, {math.MinInt, 16, false}, {17, 1000, false}, {17, 17, false}, {18, 1000, false}, {math.MaxInt, 1000, false},
		{0, 0, false}, {1, 0, false}, {16, 0, false}, {1, -1, false}, {0, math.MinInt, false}, {16, math.MinInt, false},
		{0, 1001, false}, {1, 1001, false}, {16, 1001, false}, {16, math.MaxInt, false}, {17, 1001, false}, {-1, 0, false},
		{0, 1, true}, {0, 1000, true}, {0, 16, true},
		{1, 1, false}, {1, 15, false}, {1, 16, true}, {1, 17, true}, {1, 1000, true},
		{16, 1, false}, {16, 15, false}, {16, 16, true}, {16, 17, true}, {16, 999, true}, {16, 1000, true},
		{15, 15, false}, {15, 16, true},
	} {
		if got := sched.Fair(round, x.clients, x.window); got != x.want {
			t.Errorf("%d clients, by %d: %v", x.clients, x.window, got)
		}
		// No picks: only what may not be is not fair.
		want := x.clients >= 0 && x.clients <= 16 && x.window >= 1 && x.window <= 1000
		for _, picks := range [][]int{nil, {}} {
			if got := sched.Fair(picks, x.clients, x.window); got != want {
				t.Errorf("no picks, %d clients, by %d: %v", x.clients, x.window, got)
			}
		}
	}
}

// Fewer picks than a window: true, whoever they are; just as many: one window; one more: two.
func TestFairWindows(t *testing.T) {
	for _, x := range []struct {
		picks           []int
		clients, window int
		want            bool
	}{
		{[]int{0}, 2, 2, true},
		{[]int{7}, 2, 2, true},
		{[]int{-1, -1}, 2, 3, true},
		{[]int{0, 1}, 2, 2, true},
		{[]int{1, 0}, 2, 2, true},
		{[]int{0, 0}, 2, 2, false},
		{[]int{1, 1}, 2, 2, false},
		{[]int{0, 1, 0}, 2, 2, true},
		{[]int{0, 1, 1}, 2, 2, false},
		{[]int{1, 1, 0}, 2, 2, false},
		{[]int{0, 1, -1}, 2, 2, false},
		{[]int{0, 1, -1}, 2, 3, true},
		{[]int{0, 9, 1, -1, 0}, 2, 3, false},
		{[]int{0, 9, 1, 0, -5}, 2, 3, true},
		{[]int{0, 9, 1, 0, -5, 1}, 2, 3, true},
		{[]int{0, 9, 1, 0, -5, 0}, 2, 3, false},
		{[]int{0, 1, 2, 0, 1, 2}, 3, 3, true},
		{[]int{0, 1, 2, 0, 2, 1}, 3, 3, false},
		{[]int{0, 1, 2, 0, 2, 1}, 3, 4, true},
		{[]int{0, 1, 2, 0, 2, 1}, 2, 3, false},
		{[]int{0, 0, 0, 0}, 1, 1, true},
		{[]int{0, 0, 1, 0}, 1, 1, false},
		{[]int{0, 0, 1, 0}, 1, 2, true},
		{[]int{math.MinInt, math.MaxInt, 0}, 1, 3, true},
		{[]int{math.MinInt, math.MaxInt, 0, 16}, 1, 3, true},
		{[]int{math.MinInt, math.MaxInt, 1, 16}, 1, 3, false},
	} {
		if got := sched.Fair(x.picks, x.clients, x.window); got != x.want {
			t.Errorf("%d, %d clients, by %d: %v", x.picks, x.clients, x.window, got)
		}
	}
}

// The widest window: just 1000 picks, and one client that is picked once in each of them, at either end, or once too late.
func TestFairWidest(t *testing.T) {
	for _, x := range []struct {
		count int
		ones  []int // places of client 1; all others are client 0's
		want  bool
	}{
		{999, nil, true},
		{1000, nil, false},
		{1000, []int{0}, true},
		{1000, []int{999}, true},
		{1001, []int{999}, true},
		{1001, []int{0}, false},
		{1001, []int{1000}, false},
		{1001, []int{0, 1000}, true},
		{2000, []int{999, 1999}, true},
		{2000, []int{999}, false},
		{1999, []int{999}, true},
		{3000, []int{500, 1500, 2500}, true},
		{3000, []int{500, 1501, 2501}, false},
	} {
		picks := make([]int, x.count)
		for _, place := range x.ones {
			picks[place] = 1
		}
		if got := sched.Fair(picks, 2, 1000); got != x.want || got != fair(picks, 2, 1000) {
			t.Errorf("%d picks, client 1 at %d: %v", x.count, x.ones, got)
		}
	}
}

// Any picks, up to 16 clients, windows beside the one that is just wide enough.
func TestFairAny(t *testing.T) {
	seen := map[bool]int{}
	for seed := range 400 {
		d := dice(seed)
		clients := d.below(17)
		picks := d.picks(d.below(300), clients)
		wide := 1
		for wide < 1000 && !fair(picks, clients, wide) {
			wide++
		}
		for window := max(1, wide-3); window < wide+3; window++ {
			want := fair(picks, clients, window)
			seen[want]++
			if got := sched.Fair(picks, clients, window); got != want {
				t.Fatalf("%d, %d clients, by %d: %v", picks, clients, window, got)
			}
		}
	}
	if seen[true] < 100 || seen[false] < 100 {
		t.Error(seen)
	}
}

// Bound, by numbers that were worked out beside, by a script of the chapter's formula; 4635 is the chapter's own.
func TestBound(t *testing.T) {
	get := getOp("a")
	of := func(nodes, leaf int, clients ...[]api.Op) api.Script {
		return api.Script{Config: api.Config{Nodes: nodes, Leaf: leaf, Inner: 3, Fill: 1, Block: 1}, Clients: clients}
	}
	most := slices.Repeat(lists(many(get, 256)), 16)
	for _, x := range []struct {
		s      api.Script
		window int
		want   int
	}{
		{of(9, 2), 1, 1},
		{of(9, 2), 7, 7},
		{of(9, 2, nil, nil), 7, 7},
		{of(65536, 64), 1000, 1000},
		{of(9, 2, ops(get)), 1, 4635},
		{of(9, 2, ops(get)), 2, 9910},
		{of(9, 2, ops(get)), 1000, 324315000},
		{of(1, 2, ops(get)), 1, 2027},
		{of(10, 2, ops(get)), 1, 4961},
		{of(9, 3, ops(get)), 1, 4662},
		{of(9, 2, ops(get, get)), 1, 13429},
		{of(9, 2, ops(get), ops(get)), 1, 13429},
		{of(9, 2, ops(get), nil, ops(get)), 1, 13429},
		{of(9, 2, ops(get), ops(get, get)), 4, 117052},
		{of(9, 2, ops(exportOp(0, 5))), 1, 4636},
		{of(9, 2, ops(exportOp(0, 5, 6, 7))), 2, 9916},
		{of(20, 2, ops(exportOp(0, 5, 6, 7)), ops(exportOp(0, 1, 1, 1, 1))), 3, 76224},
		{of(9, 2, many(get, 256)), 1, 136968705},
		{of(65536, 64, most...), 1, 176027091484673},
		{of(65536, 64, most...), 1000, 176028400893953000},
		{of(1000, 5, many(get, 256), many(get, 255), ops(exportOp(0, make([]int, 300)...))), 16, 675254604496},
	} {
		if got := sched.Bound(x.s, x.window); got != x.want {
			t.Errorf("%+v, by %d: %d; not %d", x.s.Config, x.window, got, x.want)
		}
	}
}

// Takes count as they are many, whatever numbers they are, and whatever kind their operation is of; those of First do not.
func TestBoundTakes(t *testing.T) {
	s := api.Script{Config: nine(), Clients: lists(ops(getOp("a")))}
	for _, takes := range [][]int{nil, {}, {0}, {-1}, {math.MinInt}, {math.MaxInt, math.MaxInt}, {-5, 0, 5, -1}, make([]int, 1000), slices.Repeat([]int{-3}, 70)} {
		for _, kind := range []api.OpKind{api.OpExport, api.OpGet, api.OpPut, api.OpScan, 0, 9, -1} {
			s.Clients[0] = ops(api.Op{Kind: kind, Key: []byte("a"), Takes: takes, Fail: -len(takes), Most: 9})
			if got := sched.Bound(s, 1); got != 4635+len(takes) {
				t.Errorf("kind %d, %d Takes: %d", kind, len(takes), got)
			}
			s.First = s.Clients[0]
			if got := sched.Bound(s, 3); got != 3*(4314+len(takes)+960+1) {
				t.Errorf("kind %d, %d Takes, by 3: %d", kind, len(takes), got)
			}
			s.First = nil
		}
	}
}

// It hangs on the clients' operations, on Nodes and Leaf alone.
func TestBoundHangsOnNoMore(t *testing.T) {
	for _, inner := range []int{3, 64} {
		for _, fill := range []int{1, 2} {
			for _, block := range []int{1, 64} {
				for _, first := range [][]api.Op{nil, ops(putOp("a", "1")), many(exportOp(0, 1, 2, 3), 256)} {
					for _, picks := range [][]int{nil, {0, 0, 0}, {-1, 99}} {
						s := api.Script{Config: api.Config{Nodes: 9, Leaf: 2, Inner: inner, Fill: fill, Block: block}, First: first, Clients: lists(ops(getOp("a"))), Picks: picks}
						if got := sched.Bound(s, 1); got != 4635 {
							t.Errorf("%+v: %d", s, got)
						}
					}
				}
			}
		}
	}
}

// 0: of each script that New refuses, and of a window that may not be.
func TestBoundRefuses(t *testing.T) {
	for i, s := range refused() {
		for _, window := range []int{1, 2, 1000, 0, -1} {
			if got := sched.Bound(s, window); got != 0 {
				t.Errorf("script %d, by %d: %d", i, window, got)
			}
		}
	}
	for _, s := range crowded(0) {
		for _, window := range []int{math.MinInt, -1000, -1, 0, 1001, 1002, 1 << 32, math.MaxInt} {
			if got := sched.Bound(s, window); got != 0 {
				t.Errorf("by %d: %d", window, got)
			}
		}
		for _, window := range []int{1, 2, 999, 1000} {
			if got := sched.Bound(s, window); got < window {
				t.Errorf("by %d: %d", window, got)
			}
		}
	}
}
