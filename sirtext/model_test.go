package sirtext_test

import (
	"fmt"
	"math/big"
	"regexp"
	"slices"
	"strings"

	"spillframe/api"
	"spillframe/sir"
)

// names has the names of the operations, as P7.1 gives them.
const names = "const copy add sub mul div and or xor less equal pair high in out load store move arg param jump branch call return trap"

// operands has the kinds of the operands of each operation, as P5.2 and the comments of package api give them: r is a register, s a slot, f a function, a an outgoing argument, p a parameter, t a target, # Imm; - stands for none.
const operands = "r# rr rrr rrr rrr rrr rrr rrr rrr rrr rrr rrr rr r r rs sr ss ar rp t rt f - #"

func nameOf(op int) string {
	return strings.Fields(names)[op]
}

func kindsOf(op int) string {
	return strings.Trim(strings.Fields(operands)[op], "-")
}

// mark returns what stands before the number of an operand.
func mark(kind rune) string {
	switch kind {
	case '#', 'n':
		return ""
	case 'p':
		return "a"
	case 't':
		return "@"
	}
	return string(kind)
}

// abc returns the operands A, B and C.
func abc(x *api.Instr) []*int {
	return []*int{&x.A, &x.B, &x.C}
}

// instrText is P7.2.
func instrText(x api.Instr) string {
	if x.Op < 0 || x.Op > 24 {
		return "?"
	}
	out := nameOf(x.Op)
	for i, kind := range kindsOf(x.Op) {
		if kind == '#' {
			out += fmt.Sprintf(" %d", x.Imm)
		} else {
			out += fmt.Sprintf(" %s%d", mark(kind), *abc(&x)[i])
		}
	}
	return out
}

// programText is the text of P7.3, also of programs that are not right.
func programText(p api.Program) string {
	out := ""
	for _, f := range p.Funcs {
		out += fmt.Sprintf("func %d\n", f.Params)
		for _, s := range f.Slots {
			out += fmt.Sprintf("slot %d %d\n", s.Size, s.Align)
		}
		for _, x := range f.Code {
			out += instrText(x) + "\n"
		}
	}
	return out
}

// A form is a line of P7.3; op is that of an instruction, or less than 0.
type form struct {
	op    int
	kinds string
	line  *regexp.Regexp
}

const (
	opFunc = -1
	opSlot = -2
)

func newForm(op int, name, kinds string) form {
	s := `^[ \t]*` + name
	for _, kind := range kinds {
		s += `[ \t]+` + mark(kind) + `(0|[1-9][0-9]{0,19})`
	}
	return form{op, kinds, regexp.MustCompile(s + `[ \t]*$`)}
}

var forms = allForms()

func allForms() []form {
	l := []form{newForm(opFunc, "func", "n"), newForm(opSlot, "slot", "nn")}
	for op := range api.Ops {
		l = append(l, newForm(op, nameOf(op), kindsOf(op)))
	}
	return l
}

// number is the value of a decimal number, if it is at most 2^bits - 1.
func number(s string, bits uint) (uint64, bool) {
	n, _ := new(big.Int).SetString(s, 10)
	limit := new(big.Int).Lsh(big.NewInt(1), bits)
	return n.Uint64(), n.Cmp(limit) < 0
}

// addLine adds what a line with words describes.
func addLine(p *api.Program, text string) api.Errno {
	i := slices.IndexFunc(forms, func(f form) bool { return f.line.MatchString(text) })
	if i < 0 {
		return api.ErrSyntax
	}
	f := forms[i]
	if len(p.Funcs) == 0 && f.op != opFunc || f.op == opSlot && len(p.Funcs[len(p.Funcs)-1].Code) > 0 {
		return api.ErrSyntax
	}
	x, small := api.Instr{Op: f.op}, []int{}
	for o, kind := range f.kinds {
		bits := uint(31)
		if kind == '#' {
			bits = 64
		}
		v, ok := number(f.line.FindStringSubmatch(text)[o+1], bits)
		if !ok {
			return api.ErrRange
		}
		if kind == '#' {
			x.Imm = v
		} else {
			small = append(small, int(v))
		}
	}
	add(p, x, small)
	return api.OK
}

// add adds a function, a slot or an instruction with these numbers.
func add(p *api.Program, x api.Instr, small []int) {
	if x.Op == opFunc {
		p.Funcs = append(p.Funcs, api.Func{Params: small[0]})
		return
	}
	last := &p.Funcs[len(p.Funcs)-1]
	if x.Op == opSlot {
		last.Slots = append(last.Slots, api.Slot{Size: small[0], Align: small[1]})
		return
	}
	for i, n := range small {
		*abc(&x)[i] = n
	}
	last.Code = append(last.Code, x)
}

var comment = regexp.MustCompile(`(?s)#.*`)

// parsed is P7.4.
func parsed(s string) (api.Program, int, api.Errno) {
	if len(s) > 1<<16 {
		return api.Program{}, 0, api.ErrLimit
	}
	var p api.Program
	for i, text := range strings.Split(s, "\n") {
		text = comment.ReplaceAllString(text, "")
		if strings.Trim(text, " \t") == "" {
			continue
		}
		if e := addLine(&p, text); e != api.OK {
			return api.Program{}, i + 1, e
		}
	}
	if e := sir.Check(p); e != api.OK {
		return api.Program{}, 0, e
	}
	return p, 0, api.OK
}

// equalFuncs compares field by field.
func equalFuncs(a, b api.Func) bool {
	return a.Params == b.Params && slices.Equal(a.Slots, b.Slots) && slices.Equal(a.Code, b.Code)
}

func equal(a, b api.Program) bool {
	return slices.EqualFunc(a.Funcs, b.Funcs, equalFuncs)
}

// chance is a generator without a pattern that the functions have.
type chance uint64

// below returns a number from 0 to n - 1.
func (c *chance) below(n int) int {
	*c = *c*6364136223846793005 + 1442695040888963407
	return int(uint64(*c) >> 33 % uint64(n))
}

func pick[T any](c *chance, l []T) T {
	return l[c.below(len(l))]
}

// wide returns a number of any length.
func (c *chance) wide() uint64 {
	v := uint64(c.below(1<<31))<<33 ^ uint64(c.below(1<<31))<<2 ^ uint64(c.below(4))
	return v >> c.below(64)
}

// instr returns an instruction with operands that exist, where counts says how many there are of each kind.
func (c *chance) instr(counts map[rune]int) api.Instr {
	x := api.Instr{Op: c.below(api.Ops)}
	for i, kind := range kindsOf(x.Op) {
		switch {
		case kind == '#':
			x.Imm = c.wide()
		case counts[kind] == 0:
			return c.instr(counts)
		default:
			*abc(&x)[i] = c.below(counts[kind])
		}
	}
	return x
}

// right returns a right program with up to funcs functions, each with fewer than slots slots and up to length instructions.
func (c *chance) right(funcs, slots, length int) api.Program {
	p := api.Program{Funcs: make([]api.Func, 1+c.below(funcs))}
	for i := range p.Funcs {
		f := api.Func{Slots: make([]api.Slot, c.below(slots)), Code: make([]api.Instr, 1+c.below(length))}
		if i > 0 {
			f.Params = c.below(9)
		}
		size := 1 << c.below(5)
		for k := range f.Slots {
			f.Slots[k] = api.Slot{Size: size, Align: 1 << c.below(25)}
		}
		counts := map[rune]int{'r': 8, 's': len(f.Slots), 'f': len(p.Funcs), 'a': 8, 'p': f.Params, 't': len(f.Code)}
		for k := range f.Code {
			f.Code[k] = c.instr(counts)
		}
		f.Code[len(f.Code)-1] = pick(c, []api.Instr{{Op: api.Return}, {Op: api.Trap, Imm: c.wide()}, {Op: api.Jump}})
		p.Funcs[i] = f
	}
	return p
}
