package mach

import (
	"slices"

	"spillframe/api"
	"spillframe/extent"
	"spillframe/sir"
	"spillframe/value"
)

// greatestSize leaves room for the most parameters: all offsets from SP are bounds.
const greatestSize = api.MaxBound - api.ArgSize*api.MaxArity

// frame is a frame with what its instructions need to know of the target.
type frame struct {
	api.Frame
	count int // how many frames the target has
}

// frameOf returns frame i of a target, and whether there is one and its shape is right.
func frameOf(t api.Target, i int) (frame, bool) {
	if !within(i, len(t.Frames)) {
		return frame{}, false
	}
	f := frame{Frame: t.Frames[i], count: len(t.Frames)}
	return f, f.shaped(t.Align)
}

// shaped reports whether the shape of the frame is right.
func (f frame) shaped(align int) bool {
	return extent.Power(align) && within(f.Params, api.MaxArity+1) && within(f.Size, greatestSize+1) && f.Size%align == 0
}

// closed reports whether control cannot run off the end of the code.
func (f frame) closed() bool {
	return len(f.Code) > 0 && sir.Terminator(f.Code[len(f.Code)-1].Op)
}

// checkInstr returns the first error of an instruction of the frame, whose shape is right.
func (f frame) checkInstr(x api.Instr) api.Errno {
	if !exists(x.Op) {
		return api.ErrRange
	}
	// The errors have an order of their own, which is not that of the operands.
	found := f.operandErrors(x)
	switch {
	case slices.Contains(found, api.ErrFormat):
		return api.ErrFormat
	case slices.Contains(found, api.ErrRange):
		return api.ErrRange
	case slices.Contains(found, api.ErrSize):
		return api.ErrSize
	case !f.covers(x):
		return api.ErrRange
	case slices.Contains(found, api.ErrTarget):
		return api.ErrTarget
	}
	return api.OK
}

// operandErrors returns what is wrong with each operand by itself.
func (f frame) operandErrors(x api.Instr) []api.Errno {
	o := operandsOf(x.Op)
	found := []api.Errno{
		f.checkOperand(o.a, x.A),
		f.checkOperand(o.b, x.B),
		f.checkOperand(o.c, x.C),
	}
	if !o.imm && x.Imm != 0 {
		found = append(found, api.ErrFormat)
	}
	return found
}

// checkOperand returns the error of an operand of kind k with the number n. An offset by itself may be any number.
func (f frame) checkOperand(k kind, n int) api.Errno {
	switch {
	case k == unused && n != 0:
		return api.ErrFormat
	case k == register && !within(n, api.Registers), k == function && !within(n, f.count):
		return api.ErrRange
	case k == size && !value.Size(n):
		return api.ErrSize
	case k == target && !within(n, len(f.Code)):
		return api.ErrTarget
	}
	return api.OK
}

// covers reports whether the instruction reads from the frame and its parameters only, and writes to the frame only.
func (f frame) covers(x api.Instr) bool {
	// Where nothing is read or written the interval is zero, which is inside of every frame.
	reads, _ := Reads(f.Frame, x)
	writes, _ := Writes(f.Frame, x)
	return extent.Inside(reads, f.Size+api.ArgSize*f.Params) && extent.Inside(writes, f.Size)
}
