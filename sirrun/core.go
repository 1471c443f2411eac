package sirrun

import (
	"spillframe/api"
	"spillframe/value"
)

// Core is the part of a machine that needs neither code nor memory: registers, the input, the fuel, and the outcome so far. The machines of both languages embed it. A register that there is not is 0, and setting it changes nothing.
type Core struct {
	Input   []uint64 // what is left of the input
	Fuel    int      // how many steps the run may take
	Outcome api.Outcome
	regs    [api.Registers]api.Value
	ended   bool
}

// Goes reports whether the run goes on. Without fuel for a further step it ends here.
func (c *Core) Goes() bool {
	if !c.ended && c.Outcome.Steps >= c.Fuel {
		c.End(api.Fuel)
	}
	return !c.ended
}

// End ends the run.
func (c *Core) End(kind int) {
	c.Outcome.Kind = kind
	c.ended = true
}

// Return ends the run in the way of a Return by the only activation.
func (c *Core) Return() {
	c.Outcome.Result = c.regs[0]
	c.End(api.Returned)
}

// Register returns the value of register n.
func (c *Core) Register(n int) api.Value {
	if n < 0 || n >= api.Registers {
		return api.Value{}
	}
	return c.regs[n]
}

// Set makes v the value of register n.
func (c *Core) Set(n int, v api.Value) {
	if n >= 0 && n < api.Registers {
		c.regs[n] = v
	}
}

// Next returns the index of the instruction that an activation executes after x, which is the one at the index at.
func (c *Core) Next(x api.Instr, at int) int {
	switch {
	case x.Op == api.Jump:
		return x.A
	case x.Op == api.Branch && c.Register(x.A).Lo != 0:
		return x.B
	}
	return at + 1
}

// Execute executes an instruction that has registers and Imm only. Of Jump and Branch nothing is left to do after Next.
func (c *Core) Execute(x api.Instr) {
	switch x.Op {
	case api.Const:
		c.Set(x.A, api.Value{Lo: x.Imm})
	case api.Copy:
		c.Set(x.A, c.Register(x.B))
	case api.Pair:
		c.Set(x.A, value.Pair(c.Register(x.B), c.Register(x.C)))
	case api.High:
		c.Set(x.A, value.High(c.Register(x.B)))
	case api.In:
		c.Set(x.A, api.Value{Lo: c.read()})
	case api.Out:
		c.Outcome.Trace = append(c.Outcome.Trace, c.Register(x.A))
	case api.Jump, api.Branch:
	case api.Trap:
		c.Outcome.Code = x.Imm
		c.End(api.Trapped)
	default:
		c.apply(x)
	}
}

// read returns the next number of the input, or 0 if none is left.
func (c *Core) read() uint64 {
	if len(c.Input) == 0 {
		return 0
	}
	n := c.Input[0]
	c.Input = c.Input[1:]
	return n
}

// apply executes Add to Equal.
func (c *Core) apply(x api.Instr) {
	v, ok := value.Apply(x.Op, c.Register(x.B), c.Register(x.C))
	if !ok {
		c.End(api.Divided)
		return
	}
	c.Set(x.A, v)
}
