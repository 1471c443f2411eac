package sirtext

import (
	"strconv"
	"strings"

	"spillframe/api"
	"spillframe/sir"
)

const (
	mostDigits = 20
	greatest   = 1<<31 - 1 // number other than Imm
)

// Parse returns the right program that s describes, or the number of the line that has the error.
func Parse(s string) (p api.Program, line int, e api.Errno) {
	if len(s) > api.MaxText {
		return api.Program{}, 0, api.ErrLimit
	}
	r := reader{ops: operations()}
	for more := true; more; {
		var text string
		text, s, more = strings.Cut(s, "\n")
		line++
		if e = r.read(words(text)); e != api.OK {
			return api.Program{}, line, e
		}
	}
	p = api.Program{Funcs: r.funcs}
	if e = sir.Check(p); e != api.OK {
		return api.Program{}, 0, e
	}
	return p, 0, api.OK
}

// operations returns the operation of each name.
func operations() map[string]int {
	ops := map[string]int{}
	for op, x := range syntaxes {
		ops[x.name] = op
	}
	return ops
}

// words returns the words of a line. Only blanks and tabs stand between words: any other white space is a part of one, and so an error.
func words(line string) []string {
	before, _, _ := strings.Cut(line, "#")
	return strings.FieldsFunc(before, func(c rune) bool { return c == ' ' || c == '\t' })
}

// reader reads lines; funcs is what they describe so far.
type reader struct {
	ops   map[string]int
	funcs []api.Func
}

// read reads the words of a line.
func (r *reader) read(words []string) api.Errno {
	if len(words) == 0 {
		return api.OK
	}
	switch name, operands := words[0], words[1:]; name {
	case funcName:
		return r.function(operands)
	case slotName:
		return r.slot(operands)
	default:
		return r.instr(name, operands)
	}
}

// last returns the function to which a slot or an instruction belongs, or nil if there is none.
func (r *reader) last() *api.Func {
	if len(r.funcs) == 0 {
		return nil
	}
	return &r.funcs[len(r.funcs)-1]
}

func (r *reader) function(operands []string) api.Errno {
	n, e := numbers(funcLetters, operands)
	if e != api.OK {
		return e
	}
	r.funcs = append(r.funcs, api.Func{Params: int(n[0])})
	return api.OK
}

func (r *reader) slot(operands []string) api.Errno {
	f := r.last()
	if f == nil || len(f.Code) > 0 {
		return api.ErrSyntax
	}
	n, e := numbers(slotLetters, operands)
	if e != api.OK {
		return e
	}
	f.Slots = append(f.Slots, api.Slot{Size: int(n[0]), Align: int(n[1])})
	return api.OK
}

func (r *reader) instr(name string, operands []string) api.Errno {
	op, ok := r.ops[name]
	f := r.last()
	if f == nil || !ok {
		return api.ErrSyntax
	}
	n, e := numbers(syntaxes[op].letters, operands)
	if e != api.OK {
		return e
	}
	f.Code = append(f.Code, instr(op, n))
	return api.OK
}

// instr returns the instruction with the operands n.
func instr(op int, n []uint64) api.Instr {
	x := api.Instr{Op: op}
	abc := [3]int{}
	for i, letter := range syntaxes[op].letters {
		if letter == imm {
			x.Imm = n[i]
		} else {
			abc[i] = int(n[i])
		}
	}
	x.A, x.B, x.C = abc[0], abc[1], abc[2]
	return x
}

// numbers returns the numbers of the operands that have these letters.
func numbers(letters string, operands []string) ([]uint64, api.Errno) {
	if len(operands) != len(letters) {
		return nil, api.ErrSyntax
	}
	out := make([]uint64, len(operands))
	tooGreat := false
	for i, word := range operands {
		s, ok := digits(letters[i], word)
		if !ok {
			return nil, api.ErrSyntax
		}
		v, err := strconv.ParseUint(s, 10, 64)
		// Not an error yet: that of the form of a later operand goes first.
		tooGreat = tooGreat || err != nil || v > greatest && letters[i] != imm
		out[i] = v
	}
	if tooGreat {
		return nil, api.ErrRange
	}
	return out, api.OK
}

// digits returns the decimal number of an operand with this letter, and whether the word has the form of one.
func digits(letter byte, word string) (string, bool) {
	if letter == imm || letter == plain {
		return word, decimal(word)
	}
	s, ok := strings.CutPrefix(word, string(letter))
	return s, ok && decimal(s)
}

func decimal(s string) bool {
	if len(s) == 0 || len(s) > mostDigits || strings.ContainsFunc(s, notDigit) {
		return false
	}
	return s[0] != '0' || len(s) == 1
}

func notDigit(c rune) bool {
	return c < '0' || c > '9'
}
