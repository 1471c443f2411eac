package machrun

import (
	"spillframe/api"
	"spillframe/sirrun"
	"spillframe/stack"
)

// activation is one execution of a frame, which is named by its index; next is the index of its next instruction.
type activation struct {
	frame, next int
}

// machine runs the frames; the end of activations is the activation that runs, whose frame begins at the SP of memory.
type machine struct {
	sirrun.Core
	frames      []api.Frame
	memory      stack.Memory
	top         int // the SP of the new stack
	activations []activation
	deepest     int
}

// run runs frame 0 to the end of the run. Without fuel for a step its frame is not pushed.
func (m *machine) run() {
	if m.Goes() {
		m.enter(0)
	}
	for m.Goes() {
		m.step()
	}
}

// enter begins an activation.
func (m *machine) enter(frame int) {
	// No size is negative, so that the only error is api.ErrOverflow.
	if m.memory.Push(m.frames[frame].Size) != api.OK {
		m.End(api.Overflow)
		return
	}
	m.activations = append(m.activations, activation{frame: frame})
	m.deepest = max(m.deepest, m.top-m.memory.SP)
}

// leave ends the last activation.
func (m *machine) leave() {
	end := len(m.activations) - 1
	m.memory.Pop(m.frames[m.activations[end].frame].Size)
	m.activations = m.activations[:end]
	if end == 0 {
		m.Return()
	}
}

// step executes the next instruction of the last activation.
func (m *machine) step() {
	m.Outcome.Steps++
	a := &m.activations[len(m.activations)-1]
	x := m.frames[a.frame].Code[a.next]
	a.next = m.Next(x, a.next)
	switch x.Op {
	case api.Load, api.Store, api.Move:
		m.access(x)
	case api.Call:
		m.enter(x.A)
	case api.Return:
		m.leave()
	default:
		m.Execute(x)
	}
}

// access executes an instruction that reads or writes bytes of the stack.
func (m *machine) access(x api.Instr) {
	switch x.Op {
	case api.Load:
		v, used, e := stack.Load(m.memory.Stack, x.B, x.C)
		m.Set(x.A, v)
		m.accessed(used, e)
	case api.Store:
		m.accessed(true, m.memory.Store(x.A, x.C, m.Register(x.B)))
	case api.Move:
		m.accessed(m.memory.Move(x.A, x.B, x.C))
	}
}

// accessed ends the run if an access had an error, or read bytes that are not used.
func (m *machine) accessed(used bool, e api.Errno) {
	switch {
	case e != api.OK:
		// An access has no error in a target for which mach.Check has none.
		m.End(api.Wild)
	case !used:
		m.End(api.Undef)
	}
}
