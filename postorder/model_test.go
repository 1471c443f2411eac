package postorder_test

import (
	"slices"

	"spillframe/api"
)

// The model follows the words of chapter 14: the search calls itself, and d dominates k if without d no way leads to k. It expects right functions.

// nextOf is P13.1.
func nextOf(f api.Func, k int) []int {
	switch x := f.Code[k]; x.Op {
	case 20:
		return []int{x.A}
	case 21:
		if x.B == k+1 {
			return []int{x.B}
		}
		return []int{min(k+1, x.B), max(k+1, x.B)}
	case 23, 24:
		return nil
	}
	return []int{k + 1}
}

// orderOf is the first and the second sentence of P14.1.
func orderOf(f api.Func) []int {
	visited := map[int]bool{}
	var order []int
	var visit func(k int)
	visit = func(k int) {
		visited[k] = true
		for _, j := range nextOf(f, k) {
			if !visited[j] {
				visit(j)
			}
		}
		order = slices.Insert(order, 0, k)
	}
	visit(0)
	return order
}

// rankOf is the third sentence of P14.1.
func rankOf(f api.Func) []int {
	order := orderOf(f)
	var rank []int
	for k := range f.Code {
		rank = append(rank, slices.Index(order, k))
	}
	return rank
}

// backOf is P14.2: all pairs of numbers are asked.
func backOf(f api.Func) [][2]int {
	rank := rankOf(f)
	var back [][2]int
	for k := range f.Code {
		next := nextOf(f, k)
		for j := range f.Code {
			if slices.Contains(next, j) && rank[k] >= 0 && rank[j] <= rank[k] {
				back = append(back, [2]int{k, j})
			}
		}
	}
	return back
}

// reachedWithout returns for each instruction whether a way without d leads to it from instruction 0.
func reachedWithout(f api.Func, d int) []bool {
	reached := make([]bool, len(f.Code))
	open := []int{0}
	for len(open) > 0 {
		k := open[0]
		open = open[1:]
		if k != d && !reached[k] {
			reached[k] = true
			open = append(open, nextOf(f, k)...)
		}
	}
	return reached
}

// dominance says of two reached instructions d and k, as dominance[d][k], whether d dominates k.
func dominance(f api.Func) [][]bool {
	reached := reachedWithout(f, -1)
	all := make([][]bool, len(f.Code))
	for d := range f.Code {
		all[d] = make([]bool, len(f.Code))
		if !reached[d] {
			continue
		}
		for k, avoided := range reachedWithout(f, d) {
			all[d][k] = reached[k] && !avoided
		}
	}
	return all
}

// dominatorsOf is P14.3.
func dominatorsOf(f api.Func) []int {
	dominates := dominance(f)
	var l []int
	for k := range f.Code {
		var others []int
		for d := range f.Code {
			if d != k && dominates[d][k] {
				others = append(others, d)
			}
		}
		found := -1
		for _, d := range others {
			if !slices.ContainsFunc(others, func(other int) bool { return !dominates[other][d] }) {
				found = d
			}
		}
		l = append(l, found)
	}
	return l
}
