package flow_test

import "spillframe/api"

// The model follows the words of chapter 13: which instruction may follow which is a relation of two numbers, and everything else asks about all pairs. It expects right functions.

// follows reports whether instruction j may follow instruction k (P13.1).
func follows(f api.Func, k, j int) bool {
	switch x := f.Code[k]; x.Op {
	case 20:
		return j == x.A
	case 21:
		return j == k+1 || j == x.B
	case 23, 24:
		return false
	}
	return j == k+1
}

// nextOf is P13.1.
func nextOf(f api.Func, k int) []int {
	var l []int
	for j := range f.Code {
		if 0 <= k && k < len(f.Code) && follows(f, k, j) {
			l = append(l, j)
		}
	}
	return l
}

// beforeOf is P13.1.
func beforeOf(f api.Func) [][]int {
	var all [][]int
	for j := range f.Code {
		var l []int
		for k := range f.Code {
			if follows(f, k, j) {
				l = append(l, k)
			}
		}
		all = append(all, l)
	}
	return all
}

// reachedOf is P13.2: after as many rounds as there are instructions each way without a cycle has been gone.
func reachedOf(f api.Func) []bool {
	var pairs [][2]int
	for k := range f.Code {
		for j := range f.Code {
			if follows(f, k, j) {
				pairs = append(pairs, [2]int{k, j})
			}
		}
	}
	reached := make([]bool, len(f.Code))
	for k := range reached {
		reached[k] = k == 0
	}
	for range f.Code {
		for _, p := range pairs {
			reached[p[1]] = reached[p[1]] || reached[p[0]]
		}
	}
	return reached
}

// isLeader is the first sentence of P13.3.
func isLeader(f api.Func, k int) bool {
	if k == 0 {
		return true
	}
	switch f.Code[k-1].Op {
	case 20, 21, 23, 24:
		return true
	}
	for _, x := range f.Code {
		if x.Op == 20 && x.A == k || x.Op == 21 && x.B == k {
			return true
		}
	}
	return false
}

// leadersOf is P13.3.
func leadersOf(f api.Func) []int {
	var l []int
	for k := range f.Code {
		if isLeader(f, k) {
			l = append(l, k)
		}
	}
	return l
}

// blockOf is P13.3, with the leaders of f.
func blockOf(f api.Func, leaders []int, k int) api.Interval {
	if k < 0 || k >= len(f.Code) {
		return api.Interval{}
	}
	first, end := 0, len(f.Code)
	for _, leader := range leaders {
		if leader <= k {
			first = max(first, leader)
		} else {
			end = min(end, leader)
		}
	}
	return api.Interval{Off: first, Size: end - first}
}
