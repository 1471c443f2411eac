package sircode_test

import (
	"bytes"
	"encoding/binary"
	"hash/crc32"
	"slices"
	"strings"

	"spillframe/api"
	"spillframe/varint"
)

// uses has the operands that each operation uses, as P5.2 gives them; I is Imm.
const uses = "AI AB ABC ABC ABC ABC ABC ABC ABC ABC ABC ABC AB A A AB AB AB AB AB A AB A - I"

// used reports whether the operation uses the operand that a letter of uses names.
func used(op int, letter string) bool {
	return strings.Contains(strings.Fields(uses)[op], letter)
}

// digits is the varint of v as P1.1 defines it, by division.
func digits(v uint64) []byte {
	if v < 128 {
		return []byte{byte(v)}
	}
	return append([]byte{byte(v%128 + 128)}, digits(v/128)...)
}

// numbers returns the varints of some numbers.
func numbers(l ...int) []byte {
	var out []byte
	for _, n := range l {
		out = append(out, digits(uint64(n))...)
	}
	return out
}

// checked returns b and its checksum.
func checked(b []byte) []byte {
	return binary.BigEndian.AppendUint32(slices.Clone(b), crc32.ChecksumIEEE(b))
}

// sealed returns the parts between the first bytes and the checksum of an encoded program.
func sealed(parts ...[]byte) []byte {
	return checked(append([]byte("SIR1"), slices.Concat(parts...)...))
}

// described returns a description with the number of its bytes.
func described(parts ...[]byte) []byte {
	d := slices.Concat(parts...)
	return append(numbers(len(d)), d...)
}

// encodedInstr is what P6.1 says of an instruction.
func encodedInstr(x api.Instr) []byte {
	out := []byte{byte(x.Op)}
	for i, n := range []int{x.A, x.B, x.C} {
		if used(x.Op, "ABC"[i:i+1]) {
			out = append(out, numbers(n)...)
		}
	}
	if used(x.Op, "I") {
		out = append(out, digits(x.Imm)...)
	}
	return out
}

// description is what P6.1 says of a function.
func description(f api.Func) []byte {
	out := numbers(f.Params, len(f.Slots))
	for _, s := range f.Slots {
		for exponent := range 25 {
			if s.Align == 1<<exponent {
				out = append(out, numbers(s.Size, exponent)...)
			}
		}
	}
	out = append(out, numbers(len(f.Code))...)
	for _, x := range f.Code {
		out = append(out, encodedInstr(x)...)
	}
	return out
}

// descriptions has the description of each function.
func descriptions(p api.Program) [][]byte {
	var out [][]byte
	for _, f := range p.Funcs {
		out = append(out, description(f))
	}
	return out
}

// encoded is P6.1, also for programs that are not right.
func encoded(p api.Program) []byte {
	content := numbers(len(p.Funcs))
	for _, d := range descriptions(p) {
		content = append(content, described(d)...)
	}
	return sealed(content)
}

// model reads the bytes from at to end, and panics with the first error.
type model struct {
	b       []byte
	at, end int
}

func refuse(wrong bool, e api.Errno) {
	if wrong {
		panic(e)
	}
}

func (m *model) word() uint64 {
	v, next, e := varint.Uint(m.b[:m.end], m.at)
	refuse(e != api.OK, e)
	m.at = next
	return v
}

// number reads a number other than Imm that is not to be greater than most.
func (m *model) number(most int, e api.Errno) int {
	v := m.word()
	refuse(v >= 1<<31, api.ErrRange)
	refuse(int(v) > most, e)
	return int(v)
}

func (m *model) any() int {
	return m.number(1<<31-1, api.ErrRange)
}

func (m *model) op() int {
	refuse(m.at == m.end, api.ErrShort)
	op := int(m.b[m.at])
	refuse(op > 24, api.ErrRange)
	m.at++
	return op
}

func (m *model) instr() api.Instr {
	x := api.Instr{Op: m.op()}
	for i, n := range []*int{&x.A, &x.B, &x.C} {
		if used(x.Op, "ABC"[i:i+1]) {
			*n = m.any()
		}
	}
	if used(x.Op, "I") {
		x.Imm = m.word()
	}
	return x
}

// function reads a description, which ends where m does.
func (m *model) function() api.Func {
	var f api.Func
	f.Params = m.any()
	for range m.number(512, api.ErrLimit) {
		size := m.any()
		exponent := m.number(24, api.ErrRange)
		f.Slots = append(f.Slots, api.Slot{Size: size, Align: 1 << exponent})
	}
	for range m.number(1024, api.ErrLimit) {
		f.Code = append(f.Code, m.instr())
	}
	refuse(m.at < m.end, api.ErrFormat)
	return f
}

// parsed is P6.3 and P6.5: the program, the descriptions of its functions, and the error.
func parsed(b []byte) (p api.Program, l [][]byte, e api.Errno) {
	defer func() {
		if x := recover(); x != nil {
			p, l, e = api.Program{}, nil, x.(api.Errno)
		}
	}()
	refuse(len(b) > 1<<20, api.ErrLimit)
	refuse(len(b) < 9, api.ErrShort)
	refuse(string(b[:4]) != "SIR1", api.ErrFormat)
	refuse(!bytes.Equal(b, checked(b[:len(b)-4])), api.ErrFormat)
	m := model{b, 4, len(b) - 4}
	for range m.number(80, api.ErrLimit) {
		size := m.any()
		refuse(size > m.end-m.at, api.ErrShort)
		d := model{b, m.at, m.at + size}
		l = append(l, b[m.at:d.end])
		p.Funcs = append(p.Funcs, d.function())
		m.at = d.end
	}
	refuse(m.at < m.end, api.ErrFormat)
	return p, l, api.OK
}

// equalFuncs compares field by field.
func equalFuncs(a, b api.Func) bool {
	return a.Params == b.Params && slices.Equal(a.Slots, b.Slots) && slices.Equal(a.Code, b.Code)
}

func equal(a, b api.Program) bool {
	return slices.EqualFunc(a.Funcs, b.Funcs, equalFuncs)
}

func equalLists(a, b [][]byte) bool {
	return slices.EqualFunc(a, b, bytes.Equal)
}

// zero reports whether a program is what an error leaves of it.
func zero(p api.Program) bool {
	return len(p.Funcs) == 0
}

// chance is a generator without a pattern that the functions have.
type chance uint64

// below returns a number from 0 to n - 1.
func (c *chance) below(n int) int {
	*c = *c*6364136223846793005 + 1442695040888963407
	return int(uint64(*c) >> 33 % uint64(n))
}

// wide returns a number of any length.
func (c *chance) wide() uint64 {
	v := uint64(c.below(1<<31))<<33 ^ uint64(c.below(1<<31))<<2 ^ uint64(c.below(4))
	return v >> c.below(64)
}

// rightInstr returns an instruction that is right in f, which has slots of one size and at least one parameter.
func (c *chance) rightInstr(p api.Program, f api.Func) api.Instr {
	x := api.Instr{Op: c.below(api.Ops)}
	r, s, t := func() int { return c.below(8) }, func() int { return c.below(len(f.Slots)) }, func() int { return c.below(len(f.Code)) }
	switch x.Op {
	case api.Const:
		x.A, x.Imm = r(), c.wide()
	case api.Copy, api.High, api.Arg:
		x.A, x.B = r(), r()
	case api.In, api.Out:
		x.A = r()
	case api.Load:
		x.A, x.B = r(), s()
	case api.Store:
		x.A, x.B = s(), r()
	case api.Move:
		x.A, x.B = s(), s()
	case api.Param:
		x.A, x.B = r(), c.below(f.Params)
	case api.Jump:
		x.A = t()
	case api.Branch:
		x.A, x.B = r(), t()
	case api.Call:
		x.A = c.below(len(p.Funcs))
	case api.Trap:
		x.Imm = c.wide()
	case api.Return:
	default:
		x.A, x.B, x.C = r(), r(), r()
	}
	return x
}

// right returns a right program with up to funcs functions, each with up to slots slots and length instructions.
func (c *chance) right(funcs, slots, length int) api.Program {
	p := api.Program{Funcs: make([]api.Func, 1+c.below(funcs))}
	for i := range p.Funcs {
		f := api.Func{Params: 1 + c.below(8), Slots: make([]api.Slot, 1+c.below(slots)), Code: make([]api.Instr, 1+c.below(length))}
		size := 1 << c.below(5)
		for k := range f.Slots {
			f.Slots[k] = api.Slot{Size: size, Align: 1 << c.below(25)}
		}
		for k := range f.Code {
			f.Code[k] = c.rightInstr(p, f)
		}
		f.Code[len(f.Code)-1] = api.Instr{Op: []int{api.Return, api.Trap, api.Jump}[c.below(3)]}
		p.Funcs[i] = f
	}
	// The entry has no parameters, so a Copy takes the place of each Param.
	p.Funcs[0].Params = 0
	for k, x := range p.Funcs[0].Code {
		if x.Op == api.Param {
			p.Funcs[0].Code[k].Op = api.Copy
		}
	}
	return p
}

// readable returns a program that has an encoding, but whose numbers mean nothing.
func (c *chance) readable() api.Program {
	n := func() int {
		if c.below(8) == 0 {
			return 1<<31 - 1 - c.below(3)
		}
		return int(c.wide() >> 33)
	}
	p := api.Program{Funcs: make([]api.Func, c.below(4))}
	for i := range p.Funcs {
		f := api.Func{Params: n()}
		for range c.below(4) {
			f.Slots = append(f.Slots, api.Slot{Size: n(), Align: 1 << c.below(25)})
		}
		for range c.below(6) {
			x := api.Instr{Op: c.below(api.Ops)}
			for o, operand := range []*int{&x.A, &x.B, &x.C} {
				if used(x.Op, "ABC"[o:o+1]) {
					*operand = n()
				}
			}
			if used(x.Op, "I") {
				x.Imm = c.wide()
			}
			f.Code = append(f.Code, x)
		}
		p.Funcs[i] = f
	}
	return p
}
