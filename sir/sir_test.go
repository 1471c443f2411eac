package sir_test

import (
	"math"
	"slices"
	"strings"
	"testing"

	"spillframe/api"
	"spillframe/sir"
)

// uses has the operands A, B and C of each operation, as P5.2 and the comments of package api give them: - for one that the operation does not use, r for a register, s for a slot, f for a function, a for an outgoing argument, p for a parameter, t for a target. A # says that the operation uses Imm.
const uses = "r--# rr- rrr rrr rrr rrr rrr rrr rrr rrr rrr rrr rr- r-- r-- rs- sr- ss- ar- rp- t-- rt- f-- --- ---#"

func usesOf(op int) string {
	return strings.Fields(uses)[op]
}

// far has numbers that no list has, and that in a narrower type would be small.
func far() []int {
	return []int{math.MinInt, math.MinInt + 1, -1 << 32, -1<<32 + 1, -1000, -2, -1, 1 << 16, 1 << 31, 1 << 32, 1<<32 + 1, 1 << 62, math.MaxInt - 1, math.MaxInt}
}

// operandNumbers has every number up to 18, the numbers around the limits, and some far away.
func operandNumbers() []int {
	l := far()
	for n := range 19 {
		l = append(l, n)
	}
	for _, n := range []int{api.Ops, api.MaxFuncs, api.MaxSlots, api.MaxCode} {
		l = append(l, n-1, n, n+1)
	}
	return l
}

// chance is a generator without a pattern that the functions have.
type chance uint64

// below returns a number from 0 to n - 1.
func (c *chance) below(n int) int {
	*c = *c*6364136223846793005 + 1442695040888963407
	return int(uint64(*c) >> 33 % uint64(n))
}

func pick[T any](c *chance, l []T) T {
	return l[c.below(len(l))]
}

// below reports whether n is from 0 to limit - 1; a limit that is not positive leaves no number, and then limit - 1 need not be an int.
func below(n, limit int) bool {
	return limit > 0 && 0 <= n && n <= limit-1
}

// exists reports whether the operand n, of the kind that a letter of uses gives, names something.
func exists(p api.Program, f api.Func, kind byte, n int) bool {
	switch kind {
	case 'r':
		return below(n, 8)
	case 's':
		return below(n, len(f.Slots))
	case 'f':
		return below(n, len(p.Funcs))
	case 'a':
		return below(n, 8)
	case 'p':
		return below(n, f.Params)
	case 't':
		return below(n, len(f.Code))
	}
	panic("no kind " + string(kind))
}

// instrError is P5.2.
func instrError(p api.Program, i, k int) api.Errno {
	if i < 0 || i >= len(p.Funcs) || k < 0 || k >= len(p.Funcs[i].Code) {
		return api.ErrRange
	}
	f := p.Funcs[i]
	x := f.Code[k]
	if x.Op < 0 || x.Op > 24 {
		return api.ErrRange
	}
	kinds, numbers := usesOf(x.Op), [3]int{x.A, x.B, x.C}
	for o, n := range numbers {
		if kinds[o] == '-' && n != 0 {
			return api.ErrFormat
		}
	}
	if !strings.Contains(kinds, "#") && x.Imm != 0 {
		return api.ErrFormat
	}
	for o, n := range numbers {
		if strings.IndexByte("rsfap", kinds[o]) >= 0 && !exists(p, f, kinds[o], n) {
			return api.ErrRange
		}
	}
	if x.Op == api.Move && f.Slots[x.A].Size != f.Slots[x.B].Size {
		return api.ErrSize
	}
	for o, n := range numbers {
		if kinds[o] == 't' && !exists(p, f, 't', n) {
			return api.ErrTarget
		}
	}
	return api.OK
}

// slotsError is P3.4.
func slotsError(l []api.Slot) api.Errno {
	if len(l) > 512 {
		return api.ErrLimit
	}
	for _, s := range l {
		if !slices.Contains([]int{1, 2, 4, 8, 16}, s.Size) {
			return api.ErrSize
		}
		exponents := 0
		for e := range 25 {
			if s.Align == 1<<e {
				exponents++
			}
		}
		if exponents != 1 {
			return api.ErrSize
		}
	}
	return api.OK
}

// funcError is P5.3.
func funcError(p api.Program, i int) api.Errno {
	if i < 0 || i >= len(p.Funcs) {
		return api.ErrRange
	}
	f := p.Funcs[i]
	if len(f.Code) > 1024 {
		return api.ErrLimit
	}
	if e := slotsError(f.Slots); e != api.OK {
		return e
	}
	if f.Params < 0 || f.Params > 8 {
		return api.ErrRange
	}
	for k := range f.Code {
		if e := instrError(p, i, k); e != api.OK {
			return e
		}
	}
	if len(f.Code) == 0 {
		return api.ErrTarget
	}
	switch f.Code[len(f.Code)-1].Op {
	case 20, 23, 24:
		return api.OK
	}
	return api.ErrTarget
}

// programError is P5.4.
func programError(p api.Program) api.Errno {
	if len(p.Funcs) > 80 {
		return api.ErrLimit
	}
	if len(p.Funcs) == 0 {
		return api.ErrRange
	}
	if p.Funcs[0].Params != 0 {
		return api.ErrArity
	}
	for i := range p.Funcs {
		if e := funcError(p, i); e != api.OK {
			return e
		}
	}
	return api.OK
}

func cloneFunc(f api.Func) api.Func {
	f.Slots = slices.Clone(f.Slots)
	f.Code = slices.Clone(f.Code)
	return f
}

func clone(p api.Program) api.Program {
	var out api.Program
	for _, f := range p.Funcs {
		out.Funcs = append(out.Funcs, cloneFunc(f))
	}
	return out
}

// roomy returns a copy of p with spare capacity in which the lists would go on, with right and with wrong elements.
func roomy(p api.Program) api.Program {
	out := clone(p)
	for i, f := range out.Funcs {
		f.Slots = append(f.Slots, api.Slot{Size: 4, Align: 1 << 20}, api.Slot{Size: 3, Align: 3})[:len(f.Slots)]
		f.Code = append(f.Code, api.Instr{Op: api.Return}, api.Instr{Op: 99, A: 7})[:len(f.Code)]
		out.Funcs[i] = f
	}
	spare := api.Func{Params: 3, Slots: []api.Slot{{Size: 1, Align: 1 << 22}}, Code: []api.Instr{{Op: api.Trap}}}
	out.Funcs = append(out.Funcs, spare, api.Func{Params: -1})[:len(out.Funcs)]
	return out
}

// whole returns a copy of all memory of p.
func whole(p api.Program) api.Program {
	var out api.Program
	for _, f := range p.Funcs[:cap(p.Funcs)] {
		f.Slots = slices.Clone(f.Slots[:cap(f.Slots)])
		f.Code = slices.Clone(f.Code[:cap(f.Code)])
		out.Funcs = append(out.Funcs, f)
	}
	return out
}

func equalFuncs(a, b api.Func) bool {
	if a.Params != b.Params || len(a.Slots) != len(b.Slots) || len(a.Code) != len(b.Code) {
		return false
	}
	for i, s := range a.Slots {
		if s.Size != b.Slots[i].Size || s.Align != b.Slots[i].Align {
			return false
		}
	}
	for i, x := range a.Code {
		y := b.Code[i]
		if x.Op != y.Op || x.A != y.A || x.B != y.B || x.C != y.C || x.Imm != y.Imm {
			return false
		}
	}
	return true
}

func equal(a, b api.Program) bool {
	if len(a.Funcs) != len(b.Funcs) {
		return false
	}
	for i := range a.Funcs {
		if !equalFuncs(a.Funcs[i], b.Funcs[i]) {
			return false
		}
	}
	return true
}

// keeps calls the function with a copy of p that has spare capacity, and checks that it leaves all of the copy's memory as it is.
func keeps(t *testing.T, name string, p api.Program, call func(p api.Program)) {
	t.Helper()
	r := roomy(p)
	before := whole(r)
	call(r)
	if !equal(whole(r), before) {
		t.Fatalf("%s changed its argument %v to %v", name, before, whole(r))
	}
}

func checkInstr(t *testing.T, p api.Program, i, k int) {
	t.Helper()
	if got, want := sir.CheckInstr(p, i, k), instrError(p, i, k); got != want {
		t.Fatalf("instruction %d of function %d, %v, is %d, not %d", k, i, p.Funcs[i].Code[k], got, want)
	}
}

// checkProgram compares Check, and CheckFunc of every function, with the model.
func checkProgram(t *testing.T, p api.Program) {
	t.Helper()
	keeps(t, "Check", p, func(p api.Program) {
		if got, want := sir.Check(p), programError(p); got != want {
			t.Fatalf("Check(%v) returned %d, not %d", p, got, want)
		}
	})
	keeps(t, "CheckFunc", p, func(p api.Program) {
		for i := -1; i <= len(p.Funcs); i++ {
			if got, want := sir.CheckFunc(p, i), funcError(p, i); got != want {
				t.Fatalf("CheckFunc(%v, %d) returned %d, not %d", p, i, got, want)
			}
		}
	})
}

func program(funcs ...api.Func) api.Program {
	return api.Program{Funcs: funcs}
}

// code returns a function without slots and parameters.
func code(l ...api.Instr) api.Func {
	return api.Func{Code: l}
}

// repeated returns n elements x.
func repeated[T any](n int, x T) []T {
	return slices.Repeat([]T{x}, n)
}

// sample is a right program in which every operation occurs.
func sample() api.Program {
	entry := api.Func{
		Slots: []api.Slot{{Size: 8, Align: 8}, {Size: 8, Align: 4}, {Size: 16, Align: 64}},
		Code: []api.Instr{
			{Op: api.Const, A: 1, Imm: 7},
			{Op: api.In, A: 0},
			{Op: api.Branch, A: 0, B: 5},
			{Op: api.Copy, A: 7, B: 1},
			{Op: api.Pair, A: 2, B: 1, C: 7},
			{Op: api.Store, A: 0, B: 1},
			{Op: api.Move, A: 1, B: 0},
			{Op: api.Load, A: 3, B: 1},
			{Op: api.Arg, A: 7, B: 3},
			{Op: api.Call, A: 1},
			{Op: api.High, A: 4, B: 3},
			{Op: api.Out, A: 4},
			{Op: api.Jump, A: 13},
			{Op: api.Return},
		},
	}
	called := api.Func{
		Params: 2,
		Slots:  []api.Slot{{Size: 1, Align: 1}, {Size: 2, Align: 32}},
		Code:   []api.Instr{{Op: api.Param, A: 5, B: 1}},
	}
	for op := api.Add; op <= api.Equal; op++ {
		called.Code = append(called.Code, api.Instr{Op: op, A: 6, B: 5, C: 4})
	}
	called.Code = append(called.Code, api.Instr{Op: api.Trap, Imm: math.MaxUint64})
	return program(entry, called)
}

// P5.1

func TestTerminator(t *testing.T) {
	for op := -100; op < 1000; op++ {
		if got, want := sir.Terminator(op), op == 20 || op == 23 || op == 24; got != want {
			t.Errorf("Terminator(%d) returned %t", op, got)
		}
	}
	for _, op := range []int{1<<32 + api.Jump, 1<<8 + api.Return, -1<<32 + api.Trap, math.MinInt, math.MaxInt} {
		if sir.Terminator(op) {
			t.Errorf("Terminator(%d) returned true", op)
		}
	}
}

// P5.2

func TestNoInstruction(t *testing.T) {
	right := api.Instr{Op: api.Return}
	p := program(code(right, right), code(right))
	for _, x := range []struct {
		p    api.Program
		i, k int
		want api.Errno
	}{
		{p, 0, 0, api.OK},
		{p, 0, 1, api.OK},
		{p, 0, 2, api.ErrRange},
		{p, 1, 0, api.OK},
		{p, 1, 1, api.ErrRange},
		{p, 2, 0, api.ErrRange},
		{p, -1, 0, api.ErrRange},
		{p, 0, -1, api.ErrRange},
		{program(), 0, 0, api.ErrRange},
		{program(api.Func{}), 0, 0, api.ErrRange},
	} {
		if got := sir.CheckInstr(x.p, x.i, x.k); got != x.want {
			t.Errorf("CheckInstr(%v, %d, %d) returned %d, not %d", x.p, x.i, x.k, got, x.want)
		}
	}
	for _, n := range far() {
		for _, place := range [][2]int{{n, 0}, {0, n}, {n, n}} {
			keeps(t, "CheckInstr", p, func(p api.Program) {
				if got := sir.CheckInstr(p, place[0], place[1]); got != api.ErrRange {
					t.Errorf("CheckInstr of the instruction %v returned %d", place, got)
				}
			})
		}
	}
}

func TestInstrExamples(t *testing.T) {
	const (
		ok     = api.OK
		format = api.ErrFormat
		none   = api.ErrRange
		size   = api.ErrSize
		target = api.ErrTarget
	)
	for _, x := range []struct {
		instr api.Instr
		want  api.Errno
	}{
		{api.Instr{Op: api.Const, A: 7, Imm: math.MaxUint64}, ok},
		{api.Instr{Op: api.Const, A: 8}, none},
		{api.Instr{Op: api.Const, A: -1}, none},
		{api.Instr{Op: api.Const, A: 1, B: 1}, format},
		{api.Instr{Op: api.Const, A: 1, C: -1}, format},
		{api.Instr{Op: api.Copy, A: 7, B: 7}, ok},
		{api.Instr{Op: api.Copy, A: 7, B: 8}, none},
		{api.Instr{Op: api.Copy, A: 7, B: 7, Imm: 1}, format},
		{api.Instr{Op: api.Add, A: 7, B: 7, C: 7}, ok},
		{api.Instr{Op: api.Pair, C: 8}, none},
		{api.Instr{Op: api.Pair, A: 1, B: 2, C: 3, Imm: 1 << 63}, format},
		{api.Instr{Op: api.High, A: 1, B: 2, C: 3}, format},
		{api.Instr{Op: api.In, A: 7}, ok},
		{api.Instr{Op: api.Out, A: 7, B: 7}, format},
		{api.Instr{Op: api.Load, A: 7, B: 2}, ok},
		{api.Instr{Op: api.Load, A: 7, B: 3}, none},
		{api.Instr{Op: api.Load, A: 2, B: 7}, none},
		{api.Instr{Op: api.Store, A: 2, B: 7}, ok},
		{api.Instr{Op: api.Store, A: 3, B: 7}, none},
		{api.Instr{Op: api.Move, A: 0, B: 1}, ok},
		{api.Instr{Op: api.Move, A: 2, B: 2}, ok},
		{api.Instr{Op: api.Move, A: 0, B: 2}, size},
		{api.Instr{Op: api.Move, A: 2, B: 0}, size},
		{api.Instr{Op: api.Move, A: 3, B: 0}, none},
		{api.Instr{Op: api.Move, A: 0, B: 3}, none},
		{api.Instr{Op: api.Move, A: -1, B: 3}, none},
		{api.Instr{Op: api.Move, A: 0, B: 2, C: 1}, format},
		{api.Instr{Op: api.Arg, A: 7, B: 7}, ok},
		{api.Instr{Op: api.Arg, A: 8}, none},
		{api.Instr{Op: api.Param, A: 7, B: 1}, ok},
		{api.Instr{Op: api.Param, A: 7, B: 2}, none},
		{api.Instr{Op: api.Jump, A: 0}, ok},
		{api.Instr{Op: api.Jump, A: 1}, target},
		{api.Instr{Op: api.Jump, A: -1}, target},
		{api.Instr{Op: api.Jump, A: 1, B: 1}, format},
		{api.Instr{Op: api.Branch, A: 7, B: 0}, ok},
		{api.Instr{Op: api.Branch, A: 7, B: 1}, target},
		{api.Instr{Op: api.Branch, A: 8, B: 1}, none},
		{api.Instr{Op: api.Branch, A: 8, B: 1, C: 1}, format},
		{api.Instr{Op: api.Call, A: 2}, ok},
		{api.Instr{Op: api.Call, A: 3}, none},
		{api.Instr{Op: api.Return}, ok},
		{api.Instr{Op: api.Return, A: 1}, format},
		{api.Instr{Op: api.Return, Imm: 1}, format},
		{api.Instr{Op: api.Trap, Imm: math.MaxUint64}, ok},
		{api.Instr{Op: api.Trap, A: 1}, format},
		{api.Instr{Op: api.Ops}, none},
		{api.Instr{Op: -1}, none},
		{api.Instr{Op: api.Ops, A: 1, B: 1, C: 1, Imm: 1}, none},
	} {
		f := code(x.instr)
		f.Params = 2
		f.Slots = []api.Slot{{Size: 4, Align: 4}, {Size: 4, Align: 16}, {Size: 8, Align: 4}}
		p := program(api.Func{}, f, api.Func{})
		if got := sir.CheckInstr(p, 1, 0); got != x.want {
			t.Errorf("%v is %d, not %d", x.instr, got, x.want)
		}
	}
}

// places has programs with functions of every kind, also wrong ones: CheckInstr looks only at what its instruction names.
func places() []api.Program {
	slots := []api.Slot{{Size: 1, Align: 1}, {Size: 1, Align: 2}, {Size: 16, Align: 1}, {Size: 16, Align: 1}, {Size: 0, Align: 0}, {Size: -5, Align: 3}, {Size: 0, Align: 9}}
	blank := func(n int) []api.Instr { return make([]api.Instr, n) }
	return []api.Program{
		program(api.Func{Code: blank(1)}),
		program(api.Func{Params: 1, Slots: slots[:1], Code: blank(2)}, api.Func{Params: 7}),
		program(api.Func{Params: 8, Slots: slots, Code: blank(11)}, api.Func{}, api.Func{Slots: slots}, api.Func{Code: blank(20)}),
		program(api.Func{Params: math.MinInt, Slots: slots[:2], Code: blank(9)}, api.Func{Params: 5}),
		program(append(repeated(api.MaxFuncs, api.Func{Params: 3, Slots: slots}), api.Func{Params: -1, Slots: repeated(api.MaxSlots, slots[0]), Code: blank(api.MaxCode)})...),
		program(api.Func{Params: math.MaxInt, Slots: repeated(api.MaxSlots+1, slots[2]), Code: blank(api.MaxCode + 1)}),
	}
}

// variants returns an operation with many combinations of operands.
func variants(op int) []api.Instr {
	var l []api.Instr
	for _, a := range operandNumbers() {
		for _, b := range operandNumbers() {
			for _, c := range []int{0, 1, 7, 8, -1} {
				l = append(l, api.Instr{Op: op, A: a, B: b, C: c}, api.Instr{Op: op, A: a, B: b, C: c, Imm: 1 << 63})
			}
		}
	}
	return l
}

// The variants of every operation, as the last instruction of each function that has code.
func TestEveryInstruction(t *testing.T) {
	all := places()
	for op := range api.Ops {
		for _, x := range variants(op) {
			for _, p := range all {
				for i, f := range p.Funcs {
					if last := len(f.Code) - 1; last >= 0 {
						f.Code[last] = x
						checkInstr(t, p, i, last)
					}
				}
			}
		}
	}
}

func TestEveryOperation(t *testing.T) {
	for _, op := range append(operandNumbers(), 1<<8+api.Return, 1<<32+api.Return) {
		for _, x := range []api.Instr{{Op: op}, {Op: op, A: 1}, {Op: op, A: 1, B: 1, C: 1, Imm: 1}, {Op: op, C: 8}, {Op: op, Imm: 1}} {
			p := program(api.Func{Params: 2, Slots: repeated(2, api.Slot{Size: 2, Align: 2}), Code: []api.Instr{x, x}}, api.Func{})
			keeps(t, "CheckInstr", p, func(p api.Program) {
				checkInstr(t, p, 0, 0)
				checkInstr(t, p, 0, 1)
			})
		}
	}
}

// The errors of one instruction, each alone and together with those that come after it.
func TestOrderOfInstrErrors(t *testing.T) {
	f := api.Func{Params: 1, Slots: []api.Slot{{Size: 4, Align: 4}, {Size: 8, Align: 4}}}
	for _, x := range []struct {
		instr api.Instr
		want  api.Errno
	}{
		{api.Instr{Op: 99, A: 99, B: 99, C: 99, Imm: 99}, api.ErrRange},
		{api.Instr{Op: api.Branch, A: 99, B: 99, C: 99}, api.ErrFormat},
		{api.Instr{Op: api.Branch, A: 99, B: 99, Imm: 99}, api.ErrFormat},
		{api.Instr{Op: api.Branch, A: 99, B: 99}, api.ErrRange},
		{api.Instr{Op: api.Branch, B: 99}, api.ErrTarget},
		{api.Instr{Op: api.Move, A: 99, B: 1, Imm: 1}, api.ErrFormat},
		{api.Instr{Op: api.Move, A: 0, B: 1, Imm: 1}, api.ErrFormat},
		{api.Instr{Op: api.Move, A: 99, B: 1}, api.ErrRange},
		{api.Instr{Op: api.Move, A: 0, B: 1}, api.ErrSize},
		{api.Instr{Op: api.Jump, A: 99, C: 1}, api.ErrFormat},
		{api.Instr{Op: api.Jump, A: 99}, api.ErrTarget},
	} {
		f.Code = []api.Instr{x.instr}
		if got := sir.CheckInstr(program(f), 0, 0); got != x.want {
			t.Errorf("%v is %d, not %d", x.instr, got, x.want)
		}
	}
}

// What an operand names belongs to the function of the instruction, not to another one.
func TestFunctionOfInstruction(t *testing.T) {
	long := api.Func{Params: 8, Slots: repeated(5, api.Slot{Size: 4, Align: 4}), Code: repeated(9, api.Instr{Op: api.Return})}
	for _, x := range []struct {
		instr api.Instr
		want  api.Errno
	}{
		{api.Instr{Op: api.Load, B: 4}, api.ErrRange},
		{api.Instr{Op: api.Store, A: 4}, api.ErrRange},
		{api.Instr{Op: api.Move, A: 4, B: 4}, api.ErrRange},
		{api.Instr{Op: api.Param, B: 7}, api.ErrRange},
		{api.Instr{Op: api.Jump, A: 8}, api.ErrTarget},
		{api.Instr{Op: api.Branch, B: 8}, api.ErrTarget},
		{api.Instr{Op: api.Call, A: 2}, api.OK},
	} {
		short := api.Func{Params: 1, Slots: []api.Slot{{Size: 8, Align: 8}}, Code: []api.Instr{x.instr}}
		if got := sir.CheckInstr(program(long, short, long), 1, 0); got != x.want {
			t.Errorf("%v of a short function is %d, not %d", x.instr, got, x.want)
		}
		right := cloneFunc(long)
		right.Code[3] = x.instr
		if got := sir.CheckInstr(program(short, right, short), 1, 3); got != api.OK {
			t.Errorf("%v of a long function is %d", x.instr, got)
		}
	}
}

// P5.3

func TestFuncExamples(t *testing.T) {
	ret := api.Instr{Op: api.Return}
	slot := api.Slot{Size: 8, Align: 8}
	for _, x := range []struct {
		name string
		f    api.Func
		want api.Errno
	}{
		{"the example of a right function", code(ret), api.OK},
		{"the example of a wrong target", code(api.Instr{Op: api.Jump, A: 1}), api.ErrTarget},
		{"a loop", code(api.Instr{Op: api.Jump}), api.OK},
		{"a trap", code(api.Instr{Op: api.Trap, Imm: 9}), api.OK},
		{"no instruction", code(), api.ErrTarget},
		{"an empty list", api.Func{Code: []api.Instr{}, Slots: []api.Slot{}}, api.ErrTarget},
		{"a branch at the end", code(ret, api.Instr{Op: api.Branch, A: 1, B: 0}), api.ErrTarget},
		{"a call at the end", code(ret, api.Instr{Op: api.Call}), api.ErrTarget},
		{"an output after a return", code(ret, api.Instr{Op: api.Out}), api.ErrTarget},
		{"the most instructions", code(repeated(api.MaxCode, ret)...), api.OK},
		{"one instruction more", code(repeated(api.MaxCode+1, ret)...), api.ErrLimit},
		{"the most slots", api.Func{Slots: repeated(api.MaxSlots, slot), Code: []api.Instr{ret}}, api.OK},
		{"one slot more", api.Func{Slots: repeated(api.MaxSlots+1, slot), Code: []api.Instr{ret}}, api.ErrLimit},
		{"a slot without a size", api.Func{Slots: []api.Slot{slot, {Align: 1}}, Code: []api.Instr{ret}}, api.ErrSize},
		{"a slot without an alignment", api.Func{Slots: []api.Slot{slot, {Size: 1}}, Code: []api.Instr{ret}}, api.ErrSize},
		{"the greatest alignment", api.Func{Slots: []api.Slot{{Size: 1, Align: api.MaxAlign}}, Code: []api.Instr{ret}}, api.OK},
		{"a greater alignment", api.Func{Slots: []api.Slot{{Size: 1, Align: 2 * api.MaxAlign}}, Code: []api.Instr{ret}}, api.ErrSize},
		{"the most parameters", api.Func{Params: api.MaxArity, Code: []api.Instr{ret}}, api.OK},
		{"one parameter more", api.Func{Params: api.MaxArity + 1, Code: []api.Instr{ret}}, api.ErrRange},
		{"less than no parameters", api.Func{Params: -1, Code: []api.Instr{ret}}, api.ErrRange},
		{"a wrong register", code(api.Instr{Op: api.In, A: 8}, ret), api.ErrRange},
		{"a wrong operation at the end", code(ret, api.Instr{Op: api.Ops}), api.ErrRange},
		{"a wrong operand at the end", code(ret, api.Instr{Op: api.Return, A: 1}), api.ErrFormat},
	} {
		for _, p := range []api.Program{program(x.f), program(api.Func{Params: -1}, x.f, api.Func{})} {
			i := len(p.Funcs) / 2
			if got := sir.CheckFunc(p, i); got != x.want {
				t.Errorf("%s, as function %d, is %d, not %d", x.name, i, got, x.want)
			}
		}
	}
}

func TestNoFunction(t *testing.T) {
	ret := code(api.Instr{Op: api.Return})
	for _, p := range []api.Program{{}, program(), program(ret), program(ret, ret)} {
		for _, i := range append(far(), len(p.Funcs), len(p.Funcs)+1) {
			keeps(t, "CheckFunc", p, func(p api.Program) {
				if got := sir.CheckFunc(p, i); got != api.ErrRange {
					t.Errorf("CheckFunc of function %d of %d returned %d", i, len(p.Funcs), got)
				}
			})
		}
	}
}

// A fault makes a function wrong; its error is that of P5.3 if there is no fault before it.
type fault struct {
	want api.Errno
	add  func(f *api.Func)
}

// funcFaults has faults in the order of P5.3.
func funcFaults() []fault {
	at := func(k int, x api.Instr) func(f *api.Func) {
		return func(f *api.Func) { f.Code[k] = x }
	}
	return []fault{
		{api.ErrLimit, func(f *api.Func) { f.Code = append(f.Code, make([]api.Instr, api.MaxCode)...) }},
		{api.ErrLimit, func(f *api.Func) { f.Slots = append(f.Slots, make([]api.Slot, api.MaxSlots)...) }},
		{api.ErrSize, func(f *api.Func) { f.Slots[2].Align = 3 }},
		{api.ErrRange, func(f *api.Func) { f.Params = 9 }},
		{api.ErrFormat, at(0, api.Instr{Op: api.In, B: 1})},
		{api.ErrSize, at(1, api.Instr{Op: api.Move, A: 0, B: 1})},
		{api.ErrTarget, at(2, api.Instr{Op: api.Jump, A: -1})},
		{api.ErrRange, at(3, api.Instr{Op: api.Out, A: -1})},
		{api.ErrTarget, at(4, api.Instr{Op: api.Call})},
	}
}

// Every combination of faults; the first one gives the error.
func TestOrderOfFuncErrors(t *testing.T) {
	faults := funcFaults()
	for chosen := range 1 << len(faults) {
		f := api.Func{Params: 2, Slots: []api.Slot{{Size: 1, Align: 1}, {Size: 2, Align: 1}, {Size: 4, Align: 4}}, Code: repeated(5, api.Instr{Op: api.Return})}
		want := api.OK
		for n := len(faults) - 1; n >= 0; n-- {
			if chosen>>n&1 == 1 {
				faults[n].add(&f)
				want = faults[n].want
			}
		}
		p := program(code(), f, code())
		if got := sir.CheckFunc(p, 1); got != want {
			t.Errorf("with the faults %b CheckFunc returned %d, not %d", chosen, got, want)
		}
		if got := funcError(p, 1); got != want {
			t.Errorf("with the faults %b the model is %d, not %d", chosen, got, want)
		}
	}
}

// An instruction that is wrong is found wherever it is, also where it is never reached.
func TestWrongInstructionAnywhere(t *testing.T) {
	for _, n := range []int{1, 2, 5, api.MaxCode} {
		for k := range n {
			f := code(repeated(n, api.Instr{Op: api.Return})...)
			f.Code[k].C = 1
			if got := sir.CheckFunc(program(f), 0); got != api.ErrFormat {
				t.Fatalf("with a wrong instruction %d of %d CheckFunc returned %d", k, n, got)
			}
		}
	}
}

// Only a terminator can be the last instruction, and the code may have others before it.
func TestLastOperation(t *testing.T) {
	for op := range api.Ops {
		f := api.Func{Params: 1, Slots: []api.Slot{{Size: 1, Align: 1}}, Code: []api.Instr{{Op: api.Return}, {Op: op}}}
		want := api.ErrTarget
		if op == api.Jump || op == api.Return || op == api.Trap {
			want = api.OK
		}
		if got := sir.CheckFunc(program(f), 0); got != want {
			t.Errorf("CheckFunc with the operation %d at the end returned %d, not %d", op, got, want)
		}
		f.Code = append(f.Code, api.Instr{Op: api.Return})
		if got := sir.CheckFunc(program(f), 0); got != api.OK {
			t.Errorf("CheckFunc with the operation %d before the end returned %d", op, got)
		}
	}
}

// P5.4

func TestProgramExamples(t *testing.T) {
	ret := code(api.Instr{Op: api.Return})
	called := api.Func{Params: 8, Code: ret.Code}
	one, two := api.Instr{Op: api.Trap, A: 1}, api.Instr{Op: api.Jump, A: 1}
	for _, x := range []struct {
		name string
		p    api.Program
		want api.Errno
	}{
		{"the example", program(ret), api.OK},
		{"the example of a wrong target", program(code(api.Instr{Op: api.Jump, A: 1})), api.ErrTarget},
		{"all operations", sample(), api.OK},
		{"no functions", api.Program{}, api.ErrRange},
		{"an empty list", api.Program{Funcs: []api.Func{}}, api.ErrRange},
		{"the most functions", program(repeated(api.MaxFuncs, ret)...), api.OK},
		{"one function more", program(repeated(api.MaxFuncs+1, ret)...), api.ErrLimit},
		{"too many wrong functions", program(repeated(api.MaxFuncs+1, called)...), api.ErrLimit},
		{"an entry with parameters", program(called), api.ErrArity},
		{"an entry with too many parameters", program(api.Func{Params: 9, Code: ret.Code}), api.ErrArity},
		{"an entry with less than no parameters", program(api.Func{Params: -1, Code: ret.Code}), api.ErrArity},
		{"an entry with parameters and without code", program(api.Func{Params: 1}), api.ErrArity},
		{"another function with parameters", program(ret, called), api.OK},
		{"an entry without code", program(code(), ret), api.ErrTarget},
		{"another function without code", program(ret, ret, code()), api.ErrTarget},
		{"another function with too many parameters", program(ret, api.Func{Params: 9, Code: ret.Code}), api.ErrRange},
		{"two wrong functions", program(ret, code(one), code(two)), api.ErrFormat},
		{"two wrong functions, the other way round", program(ret, code(two), code(one)), api.ErrTarget},
		{"a wrong entry and a limit", program(code(one), code(repeated(api.MaxCode+1, two)...)), api.ErrFormat},
		{"a function that calls itself", program(code(api.Instr{Op: api.Call}, api.Instr{Op: api.Return})), api.OK},
		{"a call to no function", program(code(api.Instr{Op: api.Call, A: 1}, api.Instr{Op: api.Return})), api.ErrRange},
	} {
		if got := sir.Check(x.p); got != x.want {
			t.Errorf("%s: Check returned %d, not %d", x.name, got, x.want)
		}
		checkProgram(t, x.p)
	}
}

// The program of DOC.md's third example.
func TestExampleOfText(t *testing.T) {
	f := api.Func{Slots: []api.Slot{{Size: 8, Align: 8}}, Code: []api.Instr{{Op: api.Const, A: 1, Imm: 7}, {Op: api.Store, A: 0, B: 1}, {Op: api.Load, A: 0, B: 0}, {Op: api.Return}}}
	if got := sir.Check(program(f)); got != api.OK {
		t.Errorf("Check returned %d", got)
	}
}

// A wrong function is found wherever it is.
func TestWrongFunctionAnywhere(t *testing.T) {
	ret := code(api.Instr{Op: api.Return})
	for _, n := range []int{1, 2, 7, api.MaxFuncs} {
		for i := range n {
			l := repeated(n, ret)
			l[i] = code(api.Instr{Op: api.Return, Imm: 1})
			if got := sir.Check(program(l...)); got != api.ErrFormat {
				t.Fatalf("with a wrong function %d of %d Check returned %d", i, n, got)
			}
		}
	}
}

// randomInstr returns an instruction that is mostly right for f.
func randomInstr(c *chance, p api.Program, f api.Func) api.Instr {
	x := api.Instr{Op: c.below(api.Ops)}
	kinds := usesOf(x.Op)
	for o, n := range []*int{&x.A, &x.B, &x.C} {
		if count := map[byte]int{'r': 8, 's': len(f.Slots), 'f': len(p.Funcs), 'a': 8, 'p': f.Params, 't': len(f.Code)}[kinds[o]]; count > 0 {
			*n = c.below(count)
		}
	}
	if strings.Contains(kinds, "#") {
		x.Imm = uint64(c.below(1 << 30))
	}
	if c.below(100) == 0 {
		x = api.Instr{Op: pick(c, operandNumbers()), A: c.below(3), B: pick(c, operandNumbers())}
	}
	return x
}

func randomFunc(c *chance, p api.Program) api.Func {
	f := api.Func{Params: c.below(9)}
	for range c.below(4) {
		f.Slots = append(f.Slots, api.Slot{Size: 1 << c.below(2), Align: 1 << c.below(25)})
	}
	f.Code = make([]api.Instr, 1+c.below(6))
	for k := range f.Code {
		f.Code[k] = randomInstr(c, p, f)
	}
	if c.below(20) > 0 {
		f.Code[len(f.Code)-1] = api.Instr{Op: api.Trap}
	}
	if c.below(100) == 0 {
		f.Params = pick(c, operandNumbers())
	}
	if c.below(100) == 0 {
		f.Slots = append(f.Slots, api.Slot{Size: c.below(18), Align: pick(c, operandNumbers())})
	}
	return f
}

func randomProgram(c *chance) api.Program {
	p := api.Program{Funcs: make([]api.Func, 1+c.below(4))}
	for i := range p.Funcs {
		p.Funcs[i] = randomFunc(c, p)
	}
	if c.below(10) > 0 {
		p.Funcs[0].Params = 0
	}
	return p
}

func TestRandomPrograms(t *testing.T) {
	c := chance(5)
	found := map[api.Errno]int{}
	for range 30000 {
		p := randomProgram(&c)
		checkProgram(t, p)
		found[programError(p)]++
		for i, f := range p.Funcs {
			for k := range f.Code {
				checkInstr(t, p, i, k)
			}
		}
	}
	for _, e := range []api.Errno{api.OK, api.ErrFormat, api.ErrRange, api.ErrSize, api.ErrTarget, api.ErrArity} {
		if found[e] < 100 {
			t.Errorf("only %d of the programs are %d", found[e], e)
		}
	}
}

// The consequence of chapter 5: what a right program names exists, and control stays in its code.
func TestRightPrograms(t *testing.T) {
	c := chance(6)
	for range 10000 {
		p := randomProgram(&c)
		if sir.Check(p) != api.OK {
			continue
		}
		for _, f := range p.Funcs {
			for k, x := range f.Code {
				for o, n := range []int{x.A, x.B, x.C} {
					if kind := usesOf(x.Op)[o]; kind != '-' && !exists(p, f, kind, n) {
						t.Fatalf("%v, a part of the right program %v, names what does not exist", x, p)
					}
				}
				if !sir.Terminator(x.Op) && k+1 == len(f.Code) {
					t.Fatalf("control leaves the right program %v", p)
				}
			}
		}
	}
}

// P5.5

func TestAlign(t *testing.T) {
	aligned := func(l ...int) api.Func {
		var f api.Func
		for _, n := range l {
			f.Slots = append(f.Slots, api.Slot{Size: 8, Align: n})
		}
		return f
	}
	for _, x := range []struct {
		p    api.Program
		want int
	}{
		{api.Program{}, 16},
		{program(), 16},
		{program(aligned()), 16},
		{program(aligned(1)), 16},
		{program(aligned(8, 16, 2)), 16},
		{program(aligned(32)), 32},
		{program(aligned(1, 64, 32)), 64},
		{program(aligned(api.MaxAlign)), api.MaxAlign},
		{program(aligned(128), aligned(32)), 128},
		{program(aligned(32), aligned(128)), 128},
		{program(aligned(32), aligned(1, 256, 2), aligned(64)), 256},
		{program(aligned(), aligned(), aligned(512)), 512},
		{program(append(repeated(api.MaxFuncs, aligned(32)), aligned(64))...), 64},
		// The Align of slots that are wrong is api.MinAlign (P3.4), also beside a right slot.
		{program(aligned(64, 3)), 16},
		{program(aligned(3, 64)), 16},
		{program(aligned(64, 2*api.MaxAlign)), 16},
		{program(aligned(0), aligned(64, -64), aligned(32)), 32},
		{program(aligned(math.MinInt), aligned(math.MaxInt)), 16},
		{program(api.Func{Slots: []api.Slot{{Size: 3, Align: 64}}}), 16},
		{program(api.Func{Slots: repeated(api.MaxSlots, api.Slot{Size: 4, Align: 64})}), 64},
		{program(api.Func{Slots: repeated(api.MaxSlots+1, api.Slot{Size: 4, Align: 64})}), 16},
		// Neither the parameters nor the code count.
		{program(api.Func{Params: -1, Slots: []api.Slot{{Size: 4, Align: 64}}, Code: []api.Instr{{Op: 99, A: 4096}}}), 64},
		{sample(), 64},
	} {
		keeps(t, "Align", x.p, func(p api.Program) {
			if got := sir.Align(p); got != x.want {
				t.Errorf("Align(%v) returned %d, not %d", p, got, x.want)
			}
		})
	}
}

func TestAlignOfRandomPrograms(t *testing.T) {
	c := chance(7)
	for range 20000 {
		p := randomProgram(&c)
		want := 16
		for _, f := range p.Funcs {
			for _, s := range f.Slots {
				if slotsError(f.Slots) == api.OK && s.Align > want {
					want = s.Align
				}
			}
		}
		if got := sir.Align(p); got != want {
			t.Fatalf("Align(%v) returned %d, not %d", p, got, want)
		}
	}
}

// P5.6

// changes has functions that each make another function of one that has at least two different slots and two different instructions.
func changes() []func(f *api.Func) {
	at := func(n, count int) int { return n * (count - 1) / 2 }
	l := []func(f *api.Func){
		func(f *api.Func) { f.Params++ },
		func(f *api.Func) { f.Params -= 1 << 32 },
		func(f *api.Func) { f.Slots = nil },
		func(f *api.Func) { f.Code = nil },
		func(f *api.Func) { f.Slots = f.Slots[1:] },
		func(f *api.Func) { f.Code = f.Code[1:] },
		func(f *api.Func) { f.Slots = f.Slots[:len(f.Slots)-1] },
		func(f *api.Func) { f.Code = f.Code[:len(f.Code)-1] },
		func(f *api.Func) { f.Slots = append(f.Slots, api.Slot{}) },
		func(f *api.Func) { f.Code = append(f.Code, api.Instr{}) },
		func(f *api.Func) { f.Slots[0], f.Slots[1] = f.Slots[1], f.Slots[0] },
		func(f *api.Func) { f.Code[0], f.Code[1] = f.Code[1], f.Code[0] },
	}
	for n := range 3 {
		l = append(l,
			func(f *api.Func) { f.Slots[at(n, len(f.Slots))].Size++ },
			func(f *api.Func) { f.Slots[at(n, len(f.Slots))].Align -= 1 << 40 },
			func(f *api.Func) { f.Code[at(n, len(f.Code))].Op++ },
			func(f *api.Func) { f.Code[at(n, len(f.Code))].A-- },
			func(f *api.Func) { f.Code[at(n, len(f.Code))].B += 1 << 32 },
			func(f *api.Func) { f.Code[at(n, len(f.Code))].C++ },
			func(f *api.Func) { f.Code[at(n, len(f.Code))].Imm ^= 1 << 63 },
		)
	}
	return l
}

func checkSame(t *testing.T, a, b api.Program, want bool) {
	t.Helper()
	keeps(t, "Same", a, func(a api.Program) {
		keeps(t, "Same", b, func(b api.Program) {
			if got := sir.Same(a, b); got != want {
				t.Errorf("Same(%v, %v) returned %t", a, b, got)
			}
			if got := sir.Same(b, a); got != want {
				t.Errorf("Same(%v, %v) returned %t", b, a, got)
			}
		})
	})
	if equal(a, b) != want {
		t.Errorf("the model of Same of %v and %v is not %t", a, b, want)
	}
}

func checkSameFunc(t *testing.T, a, b api.Func, want bool) {
	t.Helper()
	keeps(t, "SameFunc", program(a, b), func(p api.Program) {
		if got := sir.SameFunc(p.Funcs[0], p.Funcs[1]); got != want {
			t.Errorf("SameFunc(%v, %v) returned %t", a, b, got)
		}
		if got := sir.SameFunc(p.Funcs[1], p.Funcs[0]); got != want {
			t.Errorf("SameFunc(%v, %v) returned %t", b, a, got)
		}
	})
	checkSame(t, program(a), program(b), want)
}

func TestSameOfChanges(t *testing.T) {
	for _, base := range []api.Program{sample(), program(repeated(3, api.Func{Params: -4, Slots: []api.Slot{{Size: 3}, {Align: -9}}, Code: []api.Instr{{Op: 99, Imm: 5}, {A: -1, B: 2, C: 3}}})...)} {
		checkSame(t, base, clone(base), true)
		for i, f := range base.Funcs {
			checkSameFunc(t, f, cloneFunc(f), true)
			for _, change := range changes() {
				other := clone(base)
				change(&other.Funcs[i])
				checkSame(t, base, other, false)
				checkSameFunc(t, f, other.Funcs[i], false)
			}
		}
	}
}

func TestSameOfLists(t *testing.T) {
	one := api.Func{Slots: []api.Slot{{Size: 1, Align: 1}}, Code: []api.Instr{{Op: api.Return}}}
	two := api.Func{Slots: []api.Slot{{Size: 2, Align: 1}}, Code: []api.Instr{{Op: api.Return}}}
	l := []api.Program{program(), program(api.Func{}), program(api.Func{}, api.Func{}), program(one), program(two), program(one, two), program(two, one), program(one, one), program(one, two, one), program(two, one, api.Func{})}
	for i, a := range l {
		for k, b := range l {
			checkSame(t, a, b, i == k)
		}
	}
}

func TestNilIsEmpty(t *testing.T) {
	empty := api.Func{Slots: []api.Slot{}, Code: []api.Instr{}}
	room := api.Func{Slots: make([]api.Slot, 0, 4), Code: make([]api.Instr, 0, 4)}
	for _, f := range []api.Func{{}, empty, room, {Slots: empty.Slots}, {Code: empty.Code}} {
		for _, g := range []api.Func{{}, empty, room} {
			checkSameFunc(t, f, g, true)
		}
	}
	if !sir.Same(api.Program{}, api.Program{Funcs: []api.Func{}}) || !sir.Same(api.Program{Funcs: []api.Func{}}, api.Program{}) {
		t.Errorf("nil and an empty list of functions are not the same")
	}
	if sir.Same(api.Program{}, program(api.Func{})) {
		t.Errorf("no function and an empty one are the same")
	}
}

func TestSameOfItself(t *testing.T) {
	c := chance(8)
	before := api.Program{}
	for range 5000 {
		p := randomProgram(&c)
		if !sir.Same(p, p) || !sir.Same(p, clone(p)) || sir.Same(p, before) != equal(p, before) {
			t.Fatalf("Same is wrong for %v, itself, and %v", p, before)
		}
		before = p
	}
}
