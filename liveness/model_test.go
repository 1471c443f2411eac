package liveness_test

import (
	"slices"

	"spillframe/api"
)

// The model follows the words of chapter 16: a set is a row with an answer for each slot, and the least solution is what repeating Step leads to. It expects right functions.

// nextOf is P13.1.
func nextOf(f api.Func, k int) []int {
	switch x := f.Code[k]; x.Op {
	case 20:
		return []int{x.A}
	case 21:
		return []int{k + 1, x.B}
	case 23, 24:
		return nil
	}
	return []int{k + 1}
}

// usedBy and definedBy are P15.1.
func usedBy(x api.Instr, s int) bool {
	return (x.Op == 15 || x.Op == 17) && x.B == s
}

func definedBy(x api.Instr, s int) bool {
	return (x.Op == 16 || x.Op == 17) && x.A == s
}

// rowsOf returns the sets of an annotation as rows.
func rowsOf(f api.Func, l api.Live) [][]bool {
	var rows [][]bool
	for _, set := range l.Out {
		row := make([]bool, len(f.Slots))
		for _, s := range set {
			row[s] = true
		}
		rows = append(rows, row)
	}
	return rows
}

// setsOf returns rows as sets.
func setsOf(rows [][]bool) [][]int {
	sets := make([][]int, len(rows))
	for k, row := range rows {
		for s, has := range row {
			if has {
				sets[k] = append(sets[k], s)
			}
		}
	}
	return sets
}

// inOf is P15.3 for one slot.
func inOf(x api.Instr, row []bool, s int) bool {
	return usedBy(x, s) || row[s] && !definedBy(x, s)
}

// insOf is the first sentence of P16.3.
func insOf(f api.Func, l api.Live) [][]int {
	rows := rowsOf(f, l)
	var ins [][]bool
	for k, x := range f.Code {
		in := make([]bool, len(f.Slots))
		for s := range in {
			in[s] = inOf(x, rows[k], s)
		}
		ins = append(ins, in)
	}
	return setsOf(ins)
}

// renew makes the row of instruction k the union of P16.1, and reports whether it was another.
func renew(f api.Func, rows [][]bool, k int, row []bool) bool {
	changed := false
	for s := range row {
		has := false
		for _, j := range nextOf(f, k) {
			has = has || inOf(f.Code[j], rows[j], s)
		}
		changed = changed || row[s] != has
		row[s] = has
	}
	return changed
}

// stepOf is the second sentence of P16.3.
func stepOf(f api.Func, l api.Live) api.Live {
	rows := rowsOf(f, l)
	var after [][]bool
	for k := range f.Code {
		row := make([]bool, len(f.Slots))
		renew(f, rows, k, row)
		after = append(after, row)
	}
	return api.Live{Out: setsOf(after)}
}

// solveOf is P16.2: the sets only grow, and only by what every solution has.
func solveOf(f api.Func) api.Live {
	rows := rowsOf(f, api.Live{Out: make([][]int, len(f.Code))})
	for changed := true; changed; {
		changed = false
		for k := len(rows) - 1; k >= 0; k-- {
			if renew(f, rows, k, rows[k]) {
				changed = true
			}
		}
	}
	return api.Live{Out: setsOf(rows)}
}

// readAfter is the first consequence of chapter 16: it goes all ways from instruction k, until the slot is used or defined.
func readAfter(f api.Func, k, s int) bool {
	seen := make([]bool, len(f.Code))
	open := slices.Clone(nextOf(f, k))
	for len(open) > 0 {
		j := open[0]
		open = open[1:]
		if seen[j] {
			continue
		}
		seen[j] = true
		if usedBy(f.Code[j], s) {
			return true
		}
		if !definedBy(f.Code[j], s) {
			open = append(open, nextOf(f, j)...)
		}
	}
	return false
}

// pressureOf is the second sentence of P16.4.
func pressureOf(f api.Func, l api.Live) int {
	greatest := 0
	for _, in := range insOf(f, l) {
		sum := 0
		for _, s := range in {
			sum += f.Slots[s].Size
		}
		greatest = max(greatest, sum)
	}
	return greatest
}

// equal compares lists of sets; nil and empty slices are equal.
func equal(a, b [][]int) bool {
	if len(a) != len(b) {
		return false
	}
	for k := range a {
		if !slices.Equal(a[k], b[k]) {
			return false
		}
	}
	return true
}
