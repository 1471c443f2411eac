package postorder

import (
	"slices"

	"spillframe/api"
	"spillframe/flow"
)

// Dominators returns for each instruction its immediate dominator, or -1 if it has none.
func Dominators(f api.Func) []int {
	order := Order(f)
	up := immediate(sources(f, order))
	dominators := slices.Repeat([]int{none}, len(f.Code))
	for i, k := range order {
		if i > 0 {
			dominators[k] = order[up[i]]
		}
	}
	return dominators
}

// sources returns for each rank the ranks from which control may come to it.
func sources(f api.Func, order []int) [][]int {
	rank := ranks(f, order)
	before := flow.Before(f)
	from := make([][]int, len(order))
	for i, k := range order {
		for _, j := range before[k] {
			if rank[j] != none {
				from[i] = append(from[i], rank[j])
			}
		}
	}
	return from
}

// immediate returns for each rank the rank of its immediate dominator, and 0 for rank 0. It works with ranks since a dominator has a smaller rank than what it dominates, so that meet knows which of two ranks has to climb.
func immediate(from [][]int) []int {
	up := slices.Repeat([]int{none}, len(from))
	for changed := true; changed; {
		changed = false
		for i := range from {
			if best := nearest(up, from, i); best != up[i] {
				up[i] = best
				changed = true
			}
		}
	}
	return up
}

// nearest returns the greatest rank that dominates rank i, as far as up tells. One source is always known, since the search came to rank i from a smaller rank.
func nearest(up []int, from [][]int, i int) int {
	if i == 0 {
		return 0
	}
	best := none
	for _, j := range from[i] {
		switch {
		case up[j] == none: // not known yet, in the first round
		case best == none:
			best = j
		default:
			best = meet(up, best, j)
		}
	}
	return best
}

// meet returns the greatest rank to which both a and b climb.
func meet(up []int, a, b int) int {
	for a != b {
		if a > b {
			a = up[a]
		} else {
			b = up[b]
		}
	}
	return a
}
