package machcode_test

import (
	"bytes"
	"encoding/binary"
	"hash/crc32"
	"slices"
	"strings"

	"spillframe/api"
	"spillframe/mach"
)

// uses has the operands that each operation of the target language uses, as chapter 10 and the comments of package api give them; I is Imm, and an x says that there is no such operation.
const uses = "AI AB ABC ABC ABC ABC ABC ABC ABC ABC ABC ABC AB A A ABC ABC ABC x x A AB A - I"

// used reports whether the operation uses the operand that a letter of uses names.
func used(op int, letter string) bool {
	return strings.Contains(strings.Fields(uses)[op], letter)
}

// digits is the varint of v as P1.1 defines it, by division.
func digits(v uint64) []byte {
	if v < 128 {
		return []byte{byte(v)}
	}
	return append([]byte{byte(v%128 + 128)}, digits(v/128)...)
}

// numbers returns the varints of some numbers.
func numbers(l ...int) []byte {
	var out []byte
	for _, n := range l {
		out = append(out, digits(uint64(n))...)
	}
	return out
}

// checked returns b and its checksum.
func checked(b []byte) []byte {
	return binary.BigEndian.AppendUint32(slices.Clone(b), crc32.ChecksumIEEE(b))
}

// sealed returns the parts between the first bytes and the checksum of an encoded target.
func sealed(parts ...[]byte) []byte {
	return checked(append([]byte("FRM1"), slices.Concat(parts...)...))
}

// content is what lies between the first bytes and the checksum.
func content(b []byte) []byte {
	return b[4 : len(b)-4]
}

func encodedInstr(x api.Instr) []byte {
	out := []byte{byte(x.Op)}
	for i, n := range []int{x.A, x.B, x.C} {
		if used(x.Op, "ABC"[i:i+1]) {
			out = append(out, numbers(n)...)
		}
	}
	if used(x.Op, "I") {
		out = append(out, digits(x.Imm)...)
	}
	return out
}

// encoded is P11.1, also for many targets that are not right, and for numbers that are no bounds.
func encoded(t api.Target, bound int) []byte {
	exponent := 0
	for 1<<exponent < t.Align {
		exponent++
	}
	out := numbers(exponent, bound, len(t.Frames))
	for _, f := range t.Frames {
		out = append(out, numbers(f.Params, f.Size/t.Align, len(f.Code))...)
		for _, x := range f.Code {
			out = append(out, encodedInstr(x)...)
		}
	}
	return sealed(out)
}

// model reads bytes, and panics where they are not those of a target.
type model struct {
	rest []byte
}

func refuse(wrong bool) {
	if wrong {
		panic(api.ErrFormat)
	}
}

func (m *model) byte() byte {
	refuse(len(m.rest) == 0)
	b := m.rest[0]
	m.rest = m.rest[1:]
	return b
}

// word reads a varint, which has at most 64 bits and no zero at its end.
func (m *model) word() uint64 {
	v, unit, before := uint64(0), uint64(1), false
	for n := range 10 {
		b := m.byte()
		refuse(n == 9 && b > 1 || before && b == 0)
		v += uint64(b%128) * unit
		if b < 128 {
			return v
		}
		unit *= 128
		before = true
	}
	panic(api.ErrFormat)
}

// number reads a number that a list, a frame or an instruction of a right target can have.
func (m *model) number() int {
	v := m.word()
	refuse(v > 2147483647)
	return int(v)
}

func (m *model) instr() api.Instr {
	x := api.Instr{Op: int(m.byte())}
	refuse(x.Op > 24)
	for i, n := range []*int{&x.A, &x.B, &x.C} {
		if used(x.Op, "ABC"[i:i+1]) {
			*n = m.number()
		}
	}
	if used(x.Op, "I") {
		x.Imm = m.word()
	}
	return x
}

func (m *model) frame(align int) api.Frame {
	f := api.Frame{Params: m.number(), Size: m.number()}
	refuse(f.Size > 2147483647/align)
	f.Size *= align
	for range m.number() {
		f.Code = append(f.Code, m.instr())
	}
	return f
}

// target reads all of the bytes.
func (m *model) target() (api.Target, int) {
	exponent := m.number()
	refuse(exponent > 24)
	t, bound := api.Target{Align: 1 << exponent}, m.number()
	for range m.number() {
		t.Frames = append(t.Frames, m.frame(t.Align))
	}
	refuse(len(m.rest) > 0)
	return t, bound
}

// decoded is P11.3, read from the bytes without writing any.
func decoded(b []byte) (t api.Target, bound int, e api.Errno) {
	if len(b) > 1<<20 {
		return api.Target{}, 0, api.ErrLimit
	}
	if len(b) < 10 {
		return api.Target{}, 0, api.ErrShort
	}
	defer func() {
		if x := recover(); x != nil {
			t, bound, e = api.Target{}, 0, x.(api.Errno)
		}
	}()
	refuse(string(b[:4]) != "FRM1" || !bytes.Equal(b, checked(b[:len(b)-4])))
	m := model{content(b)}
	t, bound = m.target()
	refuse(mach.Check(t) != api.OK)
	return t, bound, api.OK
}

// readable reports whether the format has bytes for a target, which need not be right, and they read back to it.
func readable(t api.Target) (ok bool) {
	defer func() {
		if recover() != nil {
			ok = false
		}
	}()
	m := model{content(encoded(t, 0))}
	got, _ := m.target()
	return equal(got, t)
}

// equal compares field by field.
func equal(a, b api.Target) bool {
	return a.Align == b.Align && slices.EqualFunc(a.Frames, b.Frames, func(f, g api.Frame) bool {
		return f.Params == g.Params && f.Size == g.Size && slices.Equal(f.Code, g.Code)
	})
}

// zero reports whether a target is what an error leaves of it.
func zero(t api.Target) bool {
	return t.Align == 0 && len(t.Frames) == 0
}

// chance is a generator without a pattern that the functions have.
type chance uint64

// below returns a number from 0 to n - 1.
func (c *chance) below(n int) int {
	*c = *c*6364136223846793005 + 1442695040888963407
	return int(uint64(*c) >> 33 % uint64(n))
}

// wide returns a number of any length.
func (c *chance) wide() uint64 {
	v := uint64(c.below(1<<31))<<33 ^ uint64(c.below(1<<31))<<2 ^ uint64(c.below(4))
	return v >> c.below(64)
}

// bound returns a bound of any length.
func (c *chance) bound() int {
	return int(c.wide() >> 33)
}

// offset returns the offset of some bytes among the first limit ones.
func (c *chance) offset(size, limit int) int {
	return c.bound() % (limit - size + 1)
}

// rightInstr returns an instruction that is right in frame f of t, which has bytes and code.
func (c *chance) rightInstr(t api.Target, f api.Frame) api.Instr {
	x := api.Instr{Op: c.below(api.Ops)}
	r, size := func() int { return c.below(8) }, 1<<c.below(5)
	switch x.Op {
	case api.Const:
		x.A, x.Imm = r(), c.wide()
	case api.Copy, api.High:
		x.A, x.B = r(), r()
	case api.In, api.Out:
		x.A = r()
	case api.Load:
		x.A, x.B, x.C = r(), c.offset(size, f.Size+16*f.Params), size
	case api.Store:
		x.A, x.B, x.C = c.offset(size, f.Size), r(), size
	case api.Move:
		x.A, x.B, x.C = c.offset(size, f.Size), c.offset(size, f.Size+16*f.Params), size
	case api.Arg, api.Param:
		x.Op = api.Return
	case api.Jump:
		x.A = c.below(len(f.Code))
	case api.Branch:
		x.A, x.B = r(), c.below(len(f.Code))
	case api.Call:
		x.A = c.below(len(t.Frames))
		if 16*t.Frames[x.A].Params > f.Size {
			x.A = 0
		}
	case api.Trap:
		x.Imm = c.wide()
	case api.Return:
	default:
		x.A, x.B, x.C = r(), r(), r()
	}
	return x
}

// right returns a right target with up to count frames, each with up to length instructions.
func (c *chance) right(count, length int) api.Target {
	t := api.Target{Align: 16 << c.below(21), Frames: make([]api.Frame, 1+c.below(count))}
	for i := range t.Frames {
		most := (api.MaxBound - 128) / t.Align
		t.Frames[i] = api.Frame{Params: c.below(9), Size: t.Align * (1 + c.bound()%most), Code: make([]api.Instr, 1+c.below(length))}
	}
	t.Frames[0].Params = 0
	for _, f := range t.Frames {
		for k := range f.Code {
			f.Code[k] = c.rightInstr(t, f)
		}
		f.Code[len(f.Code)-1] = api.Instr{Op: []int{api.Return, api.Trap, api.Jump}[c.below(3)]}
	}
	return t
}
