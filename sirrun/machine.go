package sirrun

import (
	"spillframe/api"
	"spillframe/value"
)

// cells are the values of those slots, or outgoing arguments, that are defined. They are a map because a deep chain of calls can have far more slots than its steps can write.
type cells map[int]api.Value

// activation is one execution of a function; next is the index of its next instruction.
type activation struct {
	function, next int
	slots, args    cells
}

// machine runs the functions; the end of stack is the activation that runs.
type machine struct {
	Core
	funcs []api.Func
	stack []activation
	depth int
}

// last returns the activation that runs. The pointer is of no use after enter, which may move the stack.
func (m *machine) last() *activation {
	return &m.stack[len(m.stack)-1]
}

// enter begins an activation.
func (m *machine) enter(function int) {
	m.stack = append(m.stack, activation{function: function, slots: cells{}, args: cells{}})
	m.depth = max(m.depth, len(m.stack))
}

// leave ends the last activation.
func (m *machine) leave() {
	m.stack = m.stack[:len(m.stack)-1]
	if len(m.stack) == 0 {
		m.Return()
	}
}

// step executes the next instruction of the last activation.
func (m *machine) step() {
	m.Outcome.Steps++
	a := m.last()
	x := m.funcs[a.function].Code[a.next]
	a.next = m.Next(x, a.next)
	switch x.Op {
	case api.Load, api.Store, api.Move, api.Arg, api.Param:
		m.access(x)
	case api.Call:
		m.enter(x.A)
	case api.Return:
		m.leave()
	default:
		m.Execute(x)
	}
}

// access executes an instruction that reads or writes a slot or an argument.
func (m *machine) access(x api.Instr) {
	a := m.last()
	switch x.Op {
	case api.Load:
		m.Set(x.A, m.defined(a.slots, x.B))
	case api.Store:
		a.slots[x.A] = value.Truncate(m.Register(x.B), m.funcs[a.function].Slots[x.A].Size)
	case api.Move:
		a.slots[x.A] = m.defined(a.slots, x.B)
	case api.Arg:
		a.args[x.A] = m.Register(x.B)
	case api.Param:
		// There is a caller: function 0 has no parameters.
		caller := m.stack[len(m.stack)-2]
		m.Set(x.A, m.defined(caller.args, x.B))
	}
}

// defined returns the value of cell n. Without one it ends the run, and then nobody sees what becomes of the result.
func (m *machine) defined(c cells, n int) api.Value {
	v, ok := c[n]
	if !ok {
		m.End(api.Undef)
	}
	return v
}
