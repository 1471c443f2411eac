package machrun_test

import (
	"slices"

	"spillframe/api"
	"spillframe/mach"
	"spillframe/value"
)

// model runs a target as the chapters 8 to 12 say, in another way than the package: an activation is a call of a method, and the used bytes of the stack are the keys of a map.
type model struct {
	t       api.Target
	input   []uint64
	fuel    int
	regs    [8]api.Value
	bytes   map[int]byte
	sp, top int
	active  int
	ended   bool
	out     api.Outcome
	deepest int
}

// modelled returns the outcome of the run of a right target, and what Deepest is of it.
func modelled(t api.Target, input []uint64, fuel, size int) (api.Outcome, int) {
	top := 0
	for top+t.Align <= size {
		top += t.Align
	}
	m := model{t: t, input: input, fuel: fuel, bytes: map[int]byte{}, sp: top, top: top}
	if fuel == 0 {
		m.end(4)
	} else {
		m.activation(0)
	}
	return m.out, m.deepest
}

func (m *model) end(kind int) {
	m.ended, m.out.Kind = true, kind
}

// activation is P12.1 and P12.2.
func (m *model) activation(i int) {
	f := m.t.Frames[i]
	if f.Size > m.sp {
		m.end(5)
		return
	}
	m.sp -= f.Size
	for at := m.sp; at < m.sp+f.Size; at++ {
		delete(m.bytes, at)
	}
	m.active++
	m.deepest = max(m.deepest, m.top-m.sp)
	for next := 0; !m.ended; {
		if m.out.Steps >= m.fuel {
			m.end(4)
			return
		}
		m.out.Steps++
		x := f.Code[next]
		next++
		switch {
		case x.Op == 20:
			next = x.A
		case x.Op == 21:
			if m.regs[x.A].Lo != 0 {
				next = x.B
			}
		case x.Op == 22:
			m.activation(x.A)
		case x.Op == 23:
			m.sp += f.Size
			m.active--
			if m.active == 0 {
				m.end(0)
				m.out.Result = m.regs[0]
			}
			return
		case x.Op == 24:
			m.end(1)
			m.out.Code = x.Imm
		case x.Op >= 15:
			m.memory(x)
		default:
			m.registers(x)
		}
	}
}

// memory executes Load, Store and Move.
func (m *model) memory(x api.Instr) {
	var read []byte
	if x.Op == 16 {
		for n, v := 0, m.regs[x.B]; n < x.C; n++ {
			read = append(read, byte(v.Lo%256))
			v = api.Value{Lo: v.Lo/256 + v.Hi%256<<56, Hi: v.Hi / 256}
		}
	} else {
		for n := range x.C {
			b, used := m.bytes[m.sp+x.B+n]
			if !used {
				m.end(3)
				return
			}
			read = append(read, b)
		}
	}
	if x.Op == 15 {
		var v api.Value
		for _, b := range slices.Backward(read) {
			v = api.Value{Lo: v.Lo*256 + uint64(b), Hi: v.Hi*256 + v.Lo>>56}
		}
		m.regs[x.A] = v
		return
	}
	for n, b := range read {
		m.bytes[m.sp+x.A+n] = b
	}
}

// registers executes Const to Out.
func (m *model) registers(x api.Instr) {
	a, b, c := &m.regs[x.A], m.regs[x.B], m.regs[x.C]
	switch x.Op {
	case 0:
		*a = api.Value{Lo: x.Imm}
	case 1:
		*a = b
	case 11:
		*a = api.Value{Lo: b.Lo, Hi: c.Lo}
	case 12:
		*a = api.Value{Lo: b.Hi}
	case 13:
		*a = api.Value{}
		if len(m.input) > 0 {
			a.Lo = m.input[0]
			m.input = m.input[1:]
		}
	case 14:
		m.out.Trace = append(m.out.Trace, *a)
	default:
		v, ok := value.Apply(x.Op, b, c)
		if !ok {
			m.end(2)
			return
		}
		*a = v
	}
}

// chance is a generator without a pattern that targets have.
type chance uint64

// below returns a number from 0 to n - 1.
func (c *chance) below(n int) int {
	*c = *c*6364136223846793005 + 1442695040888963407
	return int(uint64(*c) >> 33 % uint64(n))
}

func (c *chance) number() uint64 {
	switch c.below(4) {
	case 0:
		return uint64(c.below(1<<31)) * uint64(c.below(1<<31)) * 8
	case 1:
		return -uint64(c.below(3))
	}
	return uint64(c.below(4))
}

func (c *chance) input() []uint64 {
	l := make([]uint64, c.below(6))
	for i := range l {
		l[i] = c.number()
	}
	return l
}

// memory returns a Load, Store or Move that is right in a frame, if there are bytes for it.
func (c *chance) memory(op int, f api.Frame) (api.Instr, bool) {
	size := 1 << c.below(5)
	read := f.Size + 16*f.Params
	switch {
	case op == api.Load && read > 0:
		return api.Instr{Op: op, A: c.below(8), B: c.below(read - size + 1), C: size}, true
	case op == api.Store && f.Size > 0:
		return api.Instr{Op: op, A: c.below(f.Size - size + 1), B: c.below(8), C: size}, true
	case op == api.Move && f.Size > 0:
		return api.Instr{Op: op, A: c.below(f.Size - size + 1), B: c.below(read - size + 1), C: size}, true
	}
	return api.Instr{}, false
}

// instr returns an instruction that is right in frame f of t, if there is one of the operation that it chooses.
func (c *chance) instr(t api.Target, f api.Frame, length int) (api.Instr, bool) {
	x := api.Instr{Op: c.below(api.Ops), A: c.below(8), B: c.below(8)}
	switch x.Op {
	case api.Load, api.Store, api.Move:
		return c.memory(x.Op, f)
	case api.Arg, api.Param:
		return x, false
	case api.Const:
		x.B, x.Imm = 0, c.number()
	case api.Copy, api.High:
	case api.In, api.Out:
		x.B = 0
	case api.Jump:
		x.A, x.B = c.below(length), 0
	case api.Branch:
		x.B = c.below(length)
	case api.Call:
		x.A, x.B = c.below(len(t.Frames)), 0
		return x, 16*t.Frames[x.A].Params <= f.Size
	case api.Return:
		x.A, x.B = 0, 0
	case api.Trap:
		x.A, x.B, x.Imm = 0, 0, c.number()
	default:
		x.C = c.below(8)
	}
	return x, true
}

// dull reports whether an instruction often ends a run early.
func dull(x api.Instr) bool {
	return slices.Contains([]int{api.Trap, api.Return, api.Jump, api.Div, api.Load, api.Move}, x.Op)
}

func (c *chance) code(t api.Target, f api.Frame) []api.Instr {
	var l []api.Instr
	for at := 0; at < f.Size; at += 16 {
		if c.below(6) > 0 {
			l = append(l, api.Instr{Op: api.Store, A: at, B: c.below(8), C: 16})
		}
	}
	length := len(l) + 4 + c.below(30)
	for len(l) < length-1 {
		x, ok := c.instr(t, f, length)
		if ok && (!dull(x) || c.below(4) == 0) {
			l = append(l, x)
		}
	}
	last := []api.Instr{{Op: api.Return}, {Op: api.Return}, {Op: api.Trap, Imm: c.number()}, {Op: api.Jump, A: c.below(length)}}
	return append(l, last[c.below(4)])
}

// target returns a right target.
func (c *chance) target() api.Target {
	t := api.Target{Align: 16 << c.below(3), Frames: make([]api.Frame, 1+c.below(5))}
	for i := range t.Frames {
		t.Frames[i] = api.Frame{Params: c.below(min(i, 1)*8 + 1), Size: t.Align * c.below(5)}
	}
	for i, f := range t.Frames {
		t.Frames[i].Code = c.code(t, f)
	}
	if e := mach.Check(t); e != api.OK {
		panic("a random target is not right")
	}
	return t
}
