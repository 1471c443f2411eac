package machrun

import (
	"testing"

	"spillframe/api"
	"spillframe/stack"
)

// No target for which mach.Check is api.OK has an access with an error, so that the machine is tested without Check here.
func TestWild(t *testing.T) {
	for _, x := range []api.Instr{
		{Op: api.Load, B: 40, C: 16},
		{Op: api.Load, B: -1, C: 8},
		{Op: api.Load, C: 3},
		{Op: api.Store, A: 41, C: 8},
		{Op: api.Store, A: -1, C: 8},
		{Op: api.Store, C: 0},
		{Op: api.Move, A: 48, C: 1},
		{Op: api.Move, B: 48, C: 1},
		{Op: api.Move, A: -1, C: 1},
		{Op: api.Move, C: 5},
	} {
		s, _ := stack.New(48, 16)
		m := machine{frames: []api.Frame{{Size: 48, Code: []api.Instr{x, {Op: api.Return}}}}, memory: stack.Memory{Stack: s}}
		m.Fuel = 10
		m.run()
		if m.Outcome.Kind != api.Wild || m.Outcome.Steps != 1 {
			t.Errorf("%v ends with the kind %d after %d steps", x, m.Outcome.Kind, m.Outcome.Steps)
		}
	}
}
