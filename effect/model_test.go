package effect_test

import (
	"strings"

	"spillframe/api"
)

// roles has what the operands A and B of each operation do to slots, as the comments of package api give it: w for a slot that is written, r for a slot that is read, - for anything else.
const roles = "-- -- -- -- -- -- -- -- -- -- -- -- -- -- -- -r w- wr -- -- -- -- -- -- --"

// roleOf returns the roles of A and B; no operation beyond the list has any.
func roleOf(op int) (a, b byte) {
	l := strings.Fields(roles)
	if op < 0 || op >= len(l) {
		return '-', '-'
	}
	return l[op][0], l[op][1]
}

// usesOf is the first sentence of P15.1.
func usesOf(x api.Instr) []int {
	if _, b := roleOf(x.Op); b == 'r' {
		return []int{x.B}
	}
	return nil
}

// definesOf is the second sentence of P15.1.
func definesOf(x api.Instr) (int, bool) {
	if a, _ := roleOf(x.Op); a == 'w' {
		return x.A, true
	}
	return 0, false
}

// inOf is P15.3: it asks about each slot that there can be.
func inOf(x api.Instr, out []int) []int {
	after := map[int]bool{}
	for _, s := range out {
		after[s] = true
	}
	a, b := roleOf(x.Op)
	var l []int
	for s := range 512 {
		used := b == 'r' && x.B == s
		defined := a == 'w' && x.A == s
		if used || after[s] && !defined {
			l = append(l, s)
		}
	}
	return l
}

// renamedOf is P15.4.
func renamedOf(x api.Instr, to []int) api.Instr {
	a, b := roleOf(x.Op)
	for s, t := range to {
		if a == 'w' && x.A == s {
			x.A, a = t, '-'
		}
		if b == 'r' && x.B == s {
			x.B, b = t, '-'
		}
	}
	return x
}
