package sirrun

import (
	"spillframe/api"
	"spillframe/value"
)

// core is the part of a machine that needs neither code nor memory: registers, the input that is left, and the outcome so far.
type core struct {
	regs    [api.Registers]api.Value
	input   []uint64
	outcome api.Outcome
	ended   bool
}

func (c *core) end(kind int) {
	c.outcome.Kind = kind
	c.ended = true
}

// compute executes an instruction that has registers only.
func (c *core) compute(x api.Instr) {
	switch x.Op {
	case api.Const:
		c.regs[x.A] = api.Value{Lo: x.Imm}
	case api.Copy:
		c.regs[x.A] = c.regs[x.B]
	case api.Pair:
		c.regs[x.A] = value.Pair(c.regs[x.B], c.regs[x.C])
	case api.High:
		c.regs[x.A] = value.High(c.regs[x.B])
	case api.In:
		c.regs[x.A] = api.Value{Lo: c.read()}
	case api.Out:
		c.outcome.Trace = append(c.outcome.Trace, c.regs[x.A])
	default:
		c.apply(x)
	}
}

// read returns the next number of the input, or 0 if none is left.
func (c *core) read() uint64 {
	if len(c.input) == 0 {
		return 0
	}
	n := c.input[0]
	c.input = c.input[1:]
	return n
}

// apply executes Add to Equal.
func (c *core) apply(x api.Instr) {
	v, ok := value.Apply(x.Op, c.regs[x.B], c.regs[x.C])
	if !ok {
		c.end(api.Divided)
		return
	}
	c.regs[x.A] = v
}
