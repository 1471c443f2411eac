package sirrun_test

import (
	"math/big"

	"spillframe/api"
)

// model runs a program as chapter 8 says, in another way than the package: an activation is a call of a method, a value is a big.Int, and one that is not defined is nil.
type model struct {
	p       api.Program
	input   []uint64
	fuel    int
	regs    [8]*big.Int
	ended   bool
	out     api.Outcome
	now     int
	deepest int
}

type cellsOf struct {
	slots, args []*big.Int
}

// modelled returns the outcome and the depth of the run of a right program.
func modelled(p api.Program, input []uint64, fuel int) (api.Outcome, int) {
	m := model{p: p, input: input, fuel: fuel}
	for i := range m.regs {
		m.regs[i] = new(big.Int)
	}
	m.activation(0, nil)
	return m.out, m.deepest
}

func (m *model) end(kind int) {
	m.ended, m.out.Kind = true, kind
}

// activation is P8.1 and P8.2.
func (m *model) activation(i int, caller *cellsOf) {
	m.now++
	m.deepest = max(m.deepest, m.now)
	f := m.p.Funcs[i]
	own := cellsOf{make([]*big.Int, len(f.Slots)), make([]*big.Int, 8)}
	for next := 0; !m.ended; {
		if m.out.Steps >= m.fuel {
			m.end(4)
			return
		}
		m.out.Steps++
		x := f.Code[next]
		next++
		switch {
		case x.Op == 20:
			next = x.A
		case x.Op == 21:
			if lowWord(m.regs[x.A]).Sign() != 0 {
				next = x.B
			}
		case x.Op == 22:
			m.activation(x.A, &own)
		case x.Op == 23:
			m.now--
			if m.now == 0 {
				m.end(0)
				m.out.Result = toValue(m.regs[0])
			}
			return
		case x.Op == 24:
			m.end(1)
			m.out.Code = x.Imm
		case x.Op >= 15:
			m.memory(x, f, own, caller)
		default:
			m.registers(x)
		}
	}
}

// memory executes Load to Param.
func (m *model) memory(x api.Instr, f api.Func, own cellsOf, caller *cellsOf) {
	var read *big.Int
	switch x.Op {
	case 15, 17:
		read = own.slots[x.B]
	case 16, 18:
		read = m.regs[x.B]
	case 19:
		read = caller.args[x.B]
	}
	if read == nil {
		m.end(3)
		return
	}
	switch x.Op {
	case 15, 19:
		m.regs[x.A] = read
	case 16:
		own.slots[x.A] = lowBits(read, uint(8*f.Slots[x.A].Size))
	case 17:
		own.slots[x.A] = read
	case 18:
		own.args[x.A] = read
	}
}

// registers executes Const to Out.
func (m *model) registers(x api.Instr) {
	a, b, c := &m.regs[x.A], m.regs[x.B], m.regs[x.C]
	switch x.Op {
	case 0:
		*a = new(big.Int).SetUint64(x.Imm)
	case 1:
		*a = b
	case 5:
		if c.Sign() == 0 {
			m.end(2)
			return
		}
		*a = new(big.Int).Quo(b, c)
	case 11:
		*a = new(big.Int).Add(lowWord(b), new(big.Int).Lsh(lowWord(c), 64))
	case 12:
		*a = new(big.Int).Rsh(b, 64)
	case 13:
		*a = new(big.Int)
		if len(m.input) > 0 {
			(*a).SetUint64(m.input[0])
			m.input = m.input[1:]
		}
	case 14:
		m.out.Trace = append(m.out.Trace, toValue(*a))
	default:
		*a = lowBits(binary(x.Op, b, c), 128)
	}
}

// binary is P2.2, except Div and before the result is cut to 128 bits.
func binary(op int, b, c *big.Int) *big.Int {
	z := new(big.Int)
	switch op {
	case 2:
		return z.Add(b, c)
	case 3:
		return z.Add(z.Sub(b, c), new(big.Int).Lsh(big.NewInt(1), 128))
	case 4:
		return z.Mul(b, c)
	case 6:
		return z.And(b, c)
	case 7:
		return z.Or(b, c)
	case 8:
		return z.Xor(b, c)
	case 9:
		if b.Cmp(c) < 0 {
			return z.SetInt64(1)
		}
		return z
	case 10:
		if b.Cmp(c) == 0 {
			return z.SetInt64(1)
		}
		return z
	}
	panic("no such operation")
}

// lowBits is the rest of x modulo 2^n.
func lowBits(x *big.Int, n uint) *big.Int {
	return new(big.Int).Rem(x, new(big.Int).Lsh(big.NewInt(1), n))
}

func lowWord(x *big.Int) *big.Int {
	return lowBits(x, 64)
}

func toValue(x *big.Int) api.Value {
	return api.Value{Lo: lowWord(x).Uint64(), Hi: new(big.Int).Rsh(x, 64).Uint64()}
}
