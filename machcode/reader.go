package machcode

import (
	"spillframe/api"
	"spillframe/mach"
	"spillframe/varint"
)

const greatestExponent = 24

// reader reads one thing after the other from the bytes of rest. It has no errors: where the bytes are not what it wants it reads something else, and the target that comes of it has other bytes.
type reader struct {
	rest []byte
}

// read returns the target and the bound whose bytes are b, or any others if there are none. It looks neither at the first bytes nor at what follows the last frame.
func read(b []byte) (api.Target, int) {
	r := reader{rest: b[len(magic):]}
	t := api.Target{Align: 1 << r.limited(greatestExponent)}
	bound := r.number()
	t.Frames = make([]api.Frame, r.limited(api.MaxFuncs))
	for i := range t.Frames {
		t.Frames[i] = r.frame(t.Align)
	}
	return t, bound
}

func (r *reader) frame(align int) api.Frame {
	f := api.Frame{Params: r.number(), Size: r.number() * align}
	f.Code = make([]api.Instr, r.limited(api.MaxCode))
	for k := range f.Code {
		f.Code[k] = r.instr()
	}
	return f
}

func (r *reader) instr() api.Instr {
	x := api.Instr{Op: r.op()}
	count, imm := mach.Operands(x.Op)
	for _, n := range []*int{&x.A, &x.B, &x.C}[:count] {
		*n = r.number()
	}
	if imm {
		x.Imm = r.word()
	}
	return x
}

func (r *reader) op() int {
	if len(r.rest) == 0 {
		return 0
	}
	op := r.rest[0]
	r.rest = r.rest[1:]
	return int(op)
}

// limited reads a number that no right target has above most.
func (r *reader) limited(most int) int {
	return int(min(r.word(), uint64(most)))
}

// number reads a number that is a part of the target or the bound as it is.
func (r *reader) number() int {
	return int(r.word())
}

// word reads a number that may be any word.
func (r *reader) word() uint64 {
	// With an error both are 0, and nothing is passed.
	v, next, _ := varint.Uint(r.rest, 0)
	r.rest = r.rest[next:]
	return v
}
