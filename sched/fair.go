package sched

import "coppice/api"

const never = -1 // the place of a pick that there was not

func isWindow(window int) bool { return 1 <= window && window <= api.MaxWindow }

// Fair: is each client picked within each window?
func Fair(picks []int, clients int, window int) bool {
	if clients < 0 || clients > api.MaxClients || !isWindow(window) {
		return false
	}
	var last [api.MaxClients]int // place of each client's picks
	for number := range clients {
		last[number] = never
	}
	for place, number := range picks {
		if 0 <= number && number < clients {
			last[number] = place
		}
		// The window that ends here begins at a place below 0, if there were not so many picks yet.
		begin := place - window + 1
		for _, at := range last[:clients] {
			if at < begin {
				return false
			}
		}
	}
	return true
}

// Bound is a number of picks behind which all is done.
func Bound(s api.Script, window int) int {
	if refuses(s) || !isWindow(window) {
		return 0
	}
	ops, takes := 0, 0
	for _, list := range s.Clients {
		ops += len(list)
		for _, op := range list {
			takes += len(op.Takes)
		}
	}
	nodes, leaf := s.Config.Nodes, s.Config.Leaf
	// Each change may send another operation back to the root: so many more ways each may have to go, from node to node.
	changes := 40 * ops
	ways := (40 + changes) * (4*nodes + 16)
	steps := ops*(ways+3*nodes*leaf+100) + takes
	return window * (steps + 8*window*changes + 1)
}
