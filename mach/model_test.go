package mach_test

import (
	"slices"
	"strings"

	"spillframe/api"
)

// uses has the operands A, B and C of each operation of the target language, as chapter 10, P5.2 and the comments of package api give them: - for one that the operation does not use, r for a register, o for an offset, c for a number of bytes, f for a frame, t for a target. A # says that the operation uses Imm, an x that the target language does not have the operation.
var uses = strings.Fields("r--# rr- rrr rrr rrr rrr rrr rrr rrr rrr rrr rrr rr- r-- r-- roc orc ooc x x t-- rt- f-- --- ---#")

func usesOf(op int) string {
	return uses[op]
}

// below reports whether n is from 0 to limit - 1.
func below(n, limit int) bool {
	return 0 <= n && n < limit
}

// power reports whether n is an alignment (P3.1).
func power(n int) bool {
	for e := range 25 {
		if n == 1<<e {
			return true
		}
	}
	return false
}

// rightShape is the first sentence of P10.2.
func rightShape(align int, f api.Frame) bool {
	return power(align) && 0 <= f.Params && f.Params <= 8 && 0 <= f.Size && f.Size <= 2147483647-16*8 && f.Size/align*align == f.Size
}

// lies reports whether count bytes from off on, at most 16, are all from 0 to limit - 1.
func lies(off, count, limit int) bool {
	return 0 <= off && off <= limit-count
}

// formatError reports whether an operand that an operation does not use is not 0.
func formatError(x api.Instr) bool {
	kinds := usesOf(x.Op)
	for o, n := range []int{x.A, x.B, x.C} {
		if kinds[o] == '-' && n != 0 {
			return true
		}
	}
	return !strings.Contains(kinds, "#") && x.Imm != 0
}

// nameError reports whether an operand names no register or no frame.
func nameError(t api.Target, x api.Instr) bool {
	kinds := usesOf(x.Op)
	for o, n := range []int{x.A, x.B, x.C} {
		if kinds[o] == 'r' && !below(n, 8) || kinds[o] == 'f' && !below(n, len(t.Frames)) {
			return true
		}
	}
	return false
}

// bytesError reports whether an instruction whose operands are right by themselves reads or writes bytes that it must not.
func bytesError(f api.Frame, x api.Instr) bool {
	all := f.Size + 16*f.Params
	switch x.Op {
	case api.Load:
		return !lies(x.B, x.C, all)
	case api.Store:
		return !lies(x.A, x.C, f.Size)
	case api.Move:
		return !lies(x.B, x.C, all) || !lies(x.A, x.C, f.Size)
	}
	return false
}

// instrError is P10.2.
func instrError(t api.Target, i, k int) api.Errno {
	if !below(i, len(t.Frames)) || !below(k, len(t.Frames[i].Code)) || !rightShape(t.Align, t.Frames[i]) {
		return api.ErrRange
	}
	f := t.Frames[i]
	x := f.Code[k]
	if !below(x.Op, 25) || x.Op == 18 || x.Op == 19 {
		return api.ErrRange
	}
	if formatError(x) {
		return api.ErrFormat
	}
	if nameError(t, x) {
		return api.ErrRange
	}
	if strings.Contains(usesOf(x.Op), "c") && !slices.Contains([]int{1, 2, 4, 8, 16}, x.C) {
		return api.ErrSize
	}
	if bytesError(f, x) {
		return api.ErrRange
	}
	if x.Op == 20 && !below(x.A, len(f.Code)) || x.Op == 21 && !below(x.B, len(f.Code)) {
		return api.ErrTarget
	}
	return api.OK
}

// frameError is P10.3.
func frameError(t api.Target, i int) api.Errno {
	if !below(i, len(t.Frames)) || !rightShape(t.Align, t.Frames[i]) {
		return api.ErrRange
	}
	code := t.Frames[i].Code
	if len(code) > 1024 {
		return api.ErrLimit
	}
	for k := range code {
		if e := instrError(t, i, k); e != api.OK {
			return e
		}
	}
	if len(code) == 0 || !slices.Contains([]int{20, 23, 24}, code[len(code)-1].Op) {
		return api.ErrTarget
	}
	return api.OK
}

// targetError is P10.4.
func targetError(t api.Target) api.Errno {
	if len(t.Frames) > 80 {
		return api.ErrLimit
	}
	if len(t.Frames) == 0 {
		return api.ErrRange
	}
	if !power(t.Align) || t.Align < 16 {
		return api.ErrSize
	}
	if t.Frames[0].Params != 0 {
		return api.ErrArity
	}
	for i := range t.Frames {
		if e := frameError(t, i); e != api.OK {
			return e
		}
	}
	for _, f := range t.Frames {
		for _, x := range f.Code {
			if x.Op == 22 && t.Frames[x.A].Params*16 > f.Size {
				return api.ErrArity
			}
		}
	}
	return api.OK
}

// equal is P10.5.
func equal(a, b api.Target) bool {
	if a.Align != b.Align || len(a.Frames) != len(b.Frames) {
		return false
	}
	for i, f := range a.Frames {
		g := b.Frames[i]
		if f.Params != g.Params || f.Size != g.Size || len(f.Code) != len(g.Code) {
			return false
		}
		for k, x := range f.Code {
			y := g.Code[k]
			if x.Op != y.Op || x.A != y.A || x.B != y.B || x.C != y.C || x.Imm != y.Imm {
				return false
			}
		}
	}
	return true
}
