package interfere_test

import (
	"slices"

	"spillframe/api"
)

// The model follows the words of chapter 18: each pair of slots is looked at by itself, and a set is a list that is searched. It expects right functions and accepted annotations.

// defines, isMove and live are the conditions of P18.1.
func defines(x api.Instr, s int) bool {
	return (x.Op == 16 || x.Op == 17) && x.A == s
}

func isMove(x api.Instr, to, from int) bool {
	return x.Op == 17 && x.A == to && x.B == from
}

func live(set []int, s int) bool {
	for _, other := range set {
		if other == s {
			return true
		}
	}
	return false
}

// spoils reports whether an instruction defines x, after which y is live, and no exception holds.
func spoils(f api.Func, sets [][]int, x, y int, strict bool) bool {
	for k, instr := range f.Code {
		excepted := isMove(instr, x, x) || !strict && isMove(instr, x, y)
		if defines(instr, x) && !excepted && live(sets[k], y) {
			return true
		}
	}
	return false
}

// graphOf is P18.1: Graph, or Strict.
func graphOf(f api.Func, sets [][]int, strict bool) [][]int {
	g := make([][]int, len(f.Slots))
	for x := range f.Slots {
		for y := range f.Slots {
			if x != y && (spoils(f, sets, x, y, strict) || spoils(f, sets, y, x, strict)) {
				g[x] = append(g[x], y)
			}
		}
	}
	return g
}

// movesOf is P18.2.
func movesOf(f api.Func) [][2]int {
	var l [][2]int
	for k, x := range f.Code {
		earlier := false
		for _, y := range f.Code[:k] {
			earlier = earlier || isMove(y, x.A, x.B)
		}
		if x.Op == 17 && x.A != x.B && !earlier {
			l = append(l, [2]int{x.A, x.B})
		}
	}
	return l
}

// checkOf is the first half of P18.3.
func checkOf(g [][]int, n int) bool {
	if len(g) != n {
		return false
	}
	for x, set := range g {
		for i, y := range set {
			if y < 0 || y >= n || y >= 512 || i > 0 && set[i-1] >= y || x == y || !live(g[y], x) {
				return false
			}
		}
	}
	return true
}

// degreeOf is the second half of P18.3.
func degreeOf(g [][]int) int {
	n := 0
	for _, set := range g {
		if len(set) > n {
			n = len(set)
		}
	}
	return n
}

// contains reports whether the sets of b have all elements of those of a.
func contains(b, a [][]int) bool {
	for k, set := range a {
		for _, s := range set {
			if !live(b[k], s) {
				return false
			}
		}
	}
	return len(a) == len(b)
}

// equal compares lists of sets; nil and empty slices are equal.
func equal(a, b [][]int) bool {
	return slices.EqualFunc(a, b, slices.Equal)
}

// joined returns sets for n slots of which each pair is in the sets of both.
func joined(n int, pairs ...[2]int) [][]int {
	g := make([][]int, n)
	for _, p := range pairs {
		g[p[0]] = append(g[p[0]], p[1])
		g[p[1]] = append(g[p[1]], p[0])
	}
	for x := range g {
		slices.Sort(g[x])
		g[x] = slices.Compact(g[x])
	}
	return g
}
