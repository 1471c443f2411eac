package mach

import "spillframe/api"

// kind says what the number of an operand is.
type kind int

const (
	unused kind = iota
	register
	offset
	size
	function
	target
)

// operands describes the operands of an operation.
type operands struct {
	a, b, c kind
	imm     bool
}

// exists reports whether the target language has the operation.
func exists(op int) bool {
	return within(op, api.Ops) && op != api.Arg && op != api.Param
}

// Operands returns how many of the operands A, B and C an operation of the target language uses, which are the first ones, and whether it uses Imm. Other operations use none.
func Operands(op int) (int, bool) {
	if !exists(op) {
		return 0, false
	}
	o := operandsOf(op)
	count := 0
	for _, k := range []kind{o.a, o.b, o.c} {
		if k != unused {
			count++
		}
	}
	return count, o.imm
}

// operandsOf returns the operands of an operation that exists.
func operandsOf(op int) operands {
	switch op {
	case api.Const:
		return operands{a: register, imm: true}
	case api.Copy, api.High:
		return operands{a: register, b: register}
	case api.Add, api.Sub, api.Mul, api.Div, api.And, api.Or, api.Xor, api.Less, api.Equal, api.Pair:
		return operands{a: register, b: register, c: register}
	case api.In, api.Out:
		return operands{a: register}
	case api.Load:
		return operands{a: register, b: offset, c: size}
	case api.Store:
		return operands{a: offset, b: register, c: size}
	case api.Move:
		return operands{a: offset, b: offset, c: size}
	case api.Jump:
		return operands{a: target}
	case api.Branch:
		return operands{a: register, b: target}
	case api.Call:
		return operands{a: function}
	case api.Trap:
		return operands{imm: true}
	}
	return operands{} // Return
}
