package livecheck_test

import (
	"slices"

	"spillframe/api"
)

// The model follows the words of chapter 17: a set is a row with an answer for each slot, and every slot of every instruction is looked at. It expects right functions.

// nextOf is P13.1.
func nextOf(f api.Func, k int) []int {
	switch x := f.Code[k]; x.Op {
	case 20:
		return []int{x.A}
	case 21:
		return []int{k + 1, x.B}
	case 23, 24:
		return nil
	}
	return []int{k + 1}
}

// usedBy and definedBy are P15.1.
func usedBy(x api.Instr, s int) bool {
	return (x.Op == 15 || x.Op == 17) && x.B == s
}

func definedBy(x api.Instr, s int) bool {
	return (x.Op == 16 || x.Op == 17) && x.A == s
}

// inOf is P15.3 for one slot.
func inOf(x api.Instr, row []bool, s int) bool {
	return usedBy(x, s) || row[s] && !definedBy(x, s)
}

// belongs is the first half of P17.1: as many sets as instructions, each in ascending order without repetition, of slots of the function.
func belongs(f api.Func, l api.Live) bool {
	for _, set := range l.Out {
		for i, s := range set {
			if s < 0 || s >= len(f.Slots) || i > 0 && set[i-1] >= s {
				return false
			}
		}
	}
	return len(l.Out) == len(f.Code)
}

// rowsOf returns the sets of an annotation that belongs to f as rows.
func rowsOf(f api.Func, l api.Live) [][]bool {
	var rows [][]bool
	for _, set := range l.Out {
		row := make([]bool, len(f.Slots))
		for _, s := range set {
			row[s] = true
		}
		rows = append(rows, row)
	}
	return rows
}

// setsOf returns rows as sets.
func setsOf(rows [][]bool) [][]int {
	sets := make([][]int, len(rows))
	for k, row := range rows {
		for s, has := range row {
			if has {
				sets[k] = append(sets[k], s)
			}
		}
	}
	return sets
}

// lacks reports whether slot s is missing in the row of instruction k.
func lacks(f api.Func, rows [][]bool, k, s int) bool {
	if rows[k][s] {
		return false
	}
	for _, j := range nextOf(f, k) {
		if inOf(f.Code[j], rows[j], s) {
			return true
		}
	}
	return false
}

// complete reports whether slot s is missing nowhere.
func complete(f api.Func, rows [][]bool, s int) bool {
	for k := range rows {
		if lacks(f, rows, k, s) {
			return false
		}
	}
	return true
}

// checkOf is P17.1.
func checkOf(f api.Func, l api.Live) api.Errno {
	if !belongs(f, l) {
		return 11
	}
	rows := rowsOf(f, l)
	for s := range f.Slots {
		if !complete(f, rows, s) {
			return 11
		}
	}
	return 0
}

// firstOf is P17.2.
func firstOf(f api.Func, l api.Live) (int, int, bool) {
	if !belongs(f, l) {
		return 0, 0, false
	}
	rows := rowsOf(f, l)
	for k := range rows {
		for s := range f.Slots {
			if lacks(f, rows, k, s) {
				return k, s, true
			}
		}
	}
	return 0, 0, false
}

// slackOf is P17.3. Where an element of slot s is left out, no other slot can become missing.
func slackOf(f api.Func, l api.Live) int {
	if checkOf(f, l) != 0 {
		return 0
	}
	count := 0
	rows := rowsOf(f, l)
	for k, set := range l.Out {
		for _, s := range set {
			rows[k][s] = false
			if complete(f, rows, s) {
				count++
			}
			rows[k][s] = true
		}
	}
	return count
}

// filled returns the sets with what is missing in them, and with what is then missing, until nothing is.
func filled(f api.Func, sets [][]int) [][]int {
	rows := rowsOf(f, api.Live{Out: sets})
	for changed := true; changed; {
		changed = false
		for k := len(rows) - 1; k >= 0; k-- {
			for s := range f.Slots {
				if lacks(f, rows, k, s) {
					rows[k][s], changed = true, true
				}
			}
		}
	}
	return setsOf(rows)
}

// without returns the sets without element i of the set of instruction k.
func without(sets [][]int, k, i int) [][]int {
	fewer := slices.Clone(sets)
	fewer[k] = slices.Delete(slices.Clone(sets[k]), i, i+1)
	return fewer
}

// with returns the sets with another set of instruction k.
func with(sets [][]int, k int, set ...int) [][]int {
	others := slices.Clone(sets)
	others[k] = set
	return others
}

// equal compares lists of sets; nil and empty slices are equal.
func equal(a, b [][]int) bool {
	return slices.EqualFunc(a, b, slices.Equal)
}
