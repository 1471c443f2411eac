package sirtext_test

import (
	"math"
	"slices"
	"strings"
	"testing"

	"spillframe/api"
	"spillframe/sir"
	"spillframe/sirtext"
)

func program(funcs ...api.Func) api.Program {
	return api.Program{Funcs: funcs}
}

// code returns a function without slots and parameters.
func code(l ...api.Instr) api.Func {
	return api.Func{Code: l}
}

func repeated[T any](n int, x T) []T {
	return slices.Repeat([]T{x}, n)
}

// text joins lines, each followed by a line feed.
func text(lines ...string) string {
	return strings.Join(lines, "\n") + "\n"
}

var ret = api.Instr{Op: api.Return}

func cloned(p api.Program) api.Program {
	var out api.Program
	for _, f := range p.Funcs {
		f.Slots, f.Code = slices.Clone(f.Slots), slices.Clone(f.Code)
		out.Funcs = append(out.Funcs, f)
	}
	return out
}

// roomy returns a copy of p with spare capacity in which the lists would go on.
func roomy(p api.Program) api.Program {
	out := cloned(p)
	for i, f := range out.Funcs {
		f.Slots = append(f.Slots, api.Slot{Size: 4, Align: 1 << 20}, api.Slot{Size: 3, Align: 3})[:len(f.Slots)]
		f.Code = append(f.Code, ret, api.Instr{Op: 99, A: 7})[:len(f.Code)]
		out.Funcs[i] = f
	}
	return api.Program{Funcs: append(out.Funcs, code(ret), api.Func{Params: -1})[:len(out.Funcs)]}
}

// whole returns a copy of all memory of p.
func whole(p api.Program) api.Program {
	out := cloned(api.Program{Funcs: p.Funcs[:cap(p.Funcs)]})
	for i, f := range p.Funcs[:cap(p.Funcs)] {
		out.Funcs[i].Slots = slices.Clone(f.Slots[:cap(f.Slots)])
		out.Funcs[i].Code = slices.Clone(f.Code[:cap(f.Code)])
	}
	return out
}

// checkFormat calls Format with a copy of p that has spare capacity.
func checkFormat(t *testing.T, name string, p api.Program, want string, wantE api.Errno) {
	t.Helper()
	r := roomy(p)
	before := whole(r)
	got, e := sirtext.Format(r)
	if got != want || e != wantE {
		t.Fatalf("%s: Format returned %q, %d, not %q, %d", name, got, e, want, wantE)
	}
	if !equal(whole(r), before) {
		t.Fatalf("%s: Format changed its argument", name)
	}
}

// checkParse compares Parse with the model, and returns what both say of s.
func checkParse(t *testing.T, s string) (p api.Program, line int, e api.Errno) {
	t.Helper()
	wantP, wantLine, wantE := parsed(s)
	p, line, e = sirtext.Parse(s)
	if !equal(p, wantP) || line != wantLine || e != wantE {
		t.Fatalf("Parse(%q) returned %v, %d, %d, not %v, %d, %d", s, p, line, e, wantP, wantLine, wantE)
	}
	return p, line, e
}

// expect checks the line and the error of Parse, and that no program comes with an error.
func expect(t *testing.T, name, s string, wantLine int, wantE api.Errno) {
	t.Helper()
	p, line, e := checkParse(t, s)
	if line != wantLine || e != wantE {
		t.Errorf("%s: Parse returned line %d and error %d, not %d and %d", name, line, e, wantLine, wantE)
	}
	if e != api.OK && len(p.Funcs) > 0 {
		t.Errorf("%s: Parse returned a program with the error %d", name, e)
	}
}

// P7.1

// The operands of each operation are all different, and some have more than one digit.
var lines = []struct {
	instr api.Instr
	want  string
}{
	{api.Instr{Op: 0, A: 7, Imm: 300}, "const r7 300"},
	{api.Instr{Op: 0}, "const r0 0"},
	{api.Instr{Op: 0, A: 1, Imm: math.MaxUint64}, "const r1 18446744073709551615"},
	{api.Instr{Op: 0, A: 2, Imm: 1 << 63}, "const r2 9223372036854775808"},
	{api.Instr{Op: 1, A: 5, B: 6}, "copy r5 r6"},
	{api.Instr{Op: 2, A: 5, B: 6, C: 7}, "add r5 r6 r7"},
	{api.Instr{Op: 3, A: 5, B: 6, C: 7}, "sub r5 r6 r7"},
	{api.Instr{Op: 4, A: 5, B: 6, C: 7}, "mul r5 r6 r7"},
	{api.Instr{Op: 5, A: 5, B: 6, C: 7}, "div r5 r6 r7"},
	{api.Instr{Op: 6, A: 5, B: 6, C: 7}, "and r5 r6 r7"},
	{api.Instr{Op: 7, A: 5, B: 6, C: 7}, "or r5 r6 r7"},
	{api.Instr{Op: 8, A: 5, B: 6, C: 7}, "xor r5 r6 r7"},
	{api.Instr{Op: 9, A: 5, B: 6, C: 7}, "less r5 r6 r7"},
	{api.Instr{Op: 10, A: 5, B: 6, C: 7}, "equal r5 r6 r7"},
	{api.Instr{Op: 11, A: 5, B: 6, C: 7}, "pair r5 r6 r7"},
	{api.Instr{Op: 12, A: 5, B: 6}, "high r5 r6"},
	{api.Instr{Op: 13, A: 5}, "in r5"},
	{api.Instr{Op: 14, A: 5}, "out r5"},
	{api.Instr{Op: 15, A: 5, B: 10}, "load r5 s10"},
	{api.Instr{Op: 16, A: 10, B: 5}, "store s10 r5"},
	{api.Instr{Op: 17, A: 10, B: 9}, "move s10 s9"},
	{api.Instr{Op: 18, A: 5, B: 6}, "arg a5 r6"},
	{api.Instr{Op: 19, A: 5, B: 6}, "param r5 a6"},
	{api.Instr{Op: 20, A: 30}, "jump @30"},
	{api.Instr{Op: 21, A: 5, B: 30}, "branch r5 @30"},
	{api.Instr{Op: 22, A: 1}, "call f1"},
	{api.Instr{Op: 23}, "return"},
	{api.Instr{Op: 24, Imm: 300}, "trap 300"},
	{api.Instr{Op: 24}, "trap 0"},
	{api.Instr{Op: 24, Imm: math.MaxUint64}, "trap 18446744073709551615"},
}

func TestNames(t *testing.T) {
	f := api.Func{Params: 8, Slots: repeated(11, api.Slot{Size: 2, Align: 4})}
	all := append([]string{"func 0", "return", "func 8"}, repeated(11, "slot 2 4")...)
	for _, x := range lines {
		if got := sirtext.Instr(x.instr); got != x.want {
			t.Errorf("Instr of %v returned %q, not %q", x.instr, got, x.want)
		}
		f.Code, all = append(f.Code, x.instr), append(all, x.want)
	}
	f.Code, all = append(f.Code, ret), append(all, "return")
	p := program(code(ret), f)
	checkFormat(t, "every operation", p, text(all...), api.OK)
	if got, _, e := checkParse(t, text(all...)); e != api.OK || !equal(got, p) {
		t.Errorf("Parse of every operation returned %v, %d", got, e)
	}
}

// Names are words of their own: nothing that is almost one is a name.
func TestOtherNames(t *testing.T) {
	all := strings.Fields(names + " func slot")
	for _, name := range all {
		others := []string{name[1:], name[:len(name)-1], name + "s", name + "0", "_" + name, strings.ToUpper(name), strings.ToUpper(name[:1]) + name[1:], name + ":", name + ",", "\ufeff" + name, name + "\x00", name + "\u00a0", "?", "25"}
		for _, other := range others {
			if !slices.Contains(all, other) {
				expect(t, "the name "+other, "func 0\nreturn\n"+other+operandsOf(name), 3, api.ErrSyntax)
			}
		}
	}
}

// operandsOf returns operands that may follow a name.
func operandsOf(name string) string {
	for op := range api.Ops {
		if nameOf(op) == name {
			return strings.TrimPrefix(instrText(api.Instr{Op: op}), name)
		}
	}
	return map[string]string{"func": " 0", "slot": " 8 8"}[name]
}

// P7.2

// far has numbers that a right program cannot have.
func far() []int {
	return []int{math.MinInt, math.MinInt + 1, -1 << 32, -1 << 31, -1000, -10, -1, 0, 1, 9, 10, 1000, 1<<31 - 1, 1 << 31, 1 << 32, 1 << 62, math.MaxInt}
}

func TestInstrOfWrongInstructions(t *testing.T) {
	for _, x := range []struct {
		instr api.Instr
		want  string
	}{
		{api.Instr{Op: -1}, "?"},
		{api.Instr{Op: 25}, "?"},
		{api.Instr{Op: 25, A: 1, B: 2, C: 3, Imm: 4}, "?"},
		{api.Instr{Op: 256}, "?"},
		{api.Instr{Op: 1 << 32}, "?"},
		{api.Instr{Op: math.MinInt}, "?"},
		{api.Instr{Op: math.MaxInt}, "?"},
		{api.Instr{Op: api.Copy, A: -1, B: -20}, "copy r-1 r-20"},
		{api.Instr{Op: api.Add, A: -1, B: -2, C: -3}, "add r-1 r-2 r-3"},
		{api.Instr{Op: api.Move, A: math.MinInt, B: math.MaxInt}, "move s-9223372036854775808 s9223372036854775807"},
		{api.Instr{Op: api.Param, A: 8, B: -1}, "param r8 a-1"},
		{api.Instr{Op: api.Arg, A: -1, B: 8}, "arg a-1 r8"},
		{api.Instr{Op: api.Call, A: -1}, "call f-1"},
		{api.Instr{Op: api.Jump, A: -1}, "jump @-1"},
		{api.Instr{Op: api.Branch, A: -1, B: 1 << 31}, "branch r-1 @2147483648"},
		{api.Instr{Op: api.Return, A: 1, B: 2, C: 3, Imm: 4}, "return"},
		{api.Instr{Op: api.Trap, A: 1, B: 2, C: 3, Imm: 4}, "trap 4"},
		{api.Instr{Op: api.Const, A: 1, B: 2, C: 3, Imm: 4}, "const r1 4"},
		{api.Instr{Op: api.In, A: 1, B: 2, C: 3, Imm: 4}, "in r1"},
		{api.Instr{Op: api.Load, A: 1, B: 2, C: 3, Imm: 4}, "load r1 s2"},
		{api.Instr{Op: api.Less, A: 1, B: 2, C: 3, Imm: 4}, "less r1 r2 r3"},
	} {
		if got := sirtext.Instr(x.instr); got != x.want {
			t.Errorf("Instr of %v returned %q, not %q", x.instr, got, x.want)
		}
	}
}

func TestInstrOfModel(t *testing.T) {
	c := chance(1)
	for op := -3; op < api.Ops+3; op++ {
		for _, n := range far() {
			for range 30 {
				x := api.Instr{Op: op, A: n, B: pick(&c, far()), C: pick(&c, far()), Imm: c.wide()}
				if got, want := sirtext.Instr(x), instrText(x); got != want {
					t.Fatalf("Instr of %v returned %q, not %q", x, got, want)
				}
			}
		}
	}
}

// P7.3

func TestFormatExamples(t *testing.T) {
	p := program(api.Func{
		Slots: []api.Slot{{Size: 8, Align: 8}},
		Code:  []api.Instr{{Op: api.Const, A: 1, Imm: 7}, {Op: api.Store, A: 0, B: 1}, {Op: api.Load, A: 0, B: 0}, ret},
	})
	checkFormat(t, "the example", p, "func 0\nslot 8 8\nconst r1 7\nstore s0 r1\nload r0 s0\nreturn\n", api.OK)
	checkFormat(t, "one instruction", program(code(ret)), "func 0\nreturn\n", api.OK)
	three := program(code(ret), api.Func{Params: 8, Slots: []api.Slot{{Size: 1, Align: 1 << 24}, {Size: 16, Align: 1}}, Code: []api.Instr{ret, ret}}, code(ret))
	checkFormat(t, "three functions", three, "func 0\nreturn\nfunc 8\nslot 1 16777216\nslot 16 1\nreturn\nreturn\nfunc 0\nreturn\n", api.OK)
}

func TestFormatOfModel(t *testing.T) {
	c := chance(2)
	for i := range 2000 {
		p := c.right(4, 5, 12)
		if i%100 == 0 {
			p = c.right(4, 300, 500)
		}
		if e := sir.Check(p); e != api.OK {
			t.Fatalf("the program %v is not right: %d", p, e)
		}
		checkFormat(t, "a right program", p, programText(p), api.OK)
	}
}

func TestFormatOfWrongPrograms(t *testing.T) {
	for _, x := range []struct {
		name string
		p    api.Program
		want api.Errno
	}{
		{"no functions", program(), api.ErrRange},
		{"too many functions", program(repeated(api.MaxFuncs+1, code(ret))...), api.ErrLimit},
		{"an entry with parameters", program(api.Func{Params: 1, Code: []api.Instr{ret}}), api.ErrArity},
		{"too many parameters", program(code(ret), api.Func{Params: 9, Code: []api.Instr{ret}}), api.ErrRange},
		{"no code", program(code()), api.ErrTarget},
		{"code that runs off its end", program(code(ret, api.Instr{Op: api.In})), api.ErrTarget},
		{"too much code", program(code(repeated(api.MaxCode+1, ret)...)), api.ErrLimit},
		{"a slot of 3 bytes", program(api.Func{Slots: []api.Slot{{Size: 3, Align: 1}}, Code: []api.Instr{ret}}), api.ErrSize},
		{"an unknown operation", program(code(api.Instr{Op: 25}, ret)), api.ErrRange},
		{"an operand that is not used", program(code(api.Instr{Op: api.Return, C: 1})), api.ErrFormat},
		{"a register that does not exist", program(code(api.Instr{Op: api.In, A: -1}, ret)), api.ErrRange},
		{"a wrong target", program(code(api.Instr{Op: api.Jump, A: 1})), api.ErrTarget},
		{"a wrong second function", program(code(ret), code(api.Instr{Op: api.Call, A: 2}, ret)), api.ErrRange},
	} {
		checkFormat(t, x.name, x.p, "", x.want)
	}
}

// ofLength returns a right program whose text has n bytes; n is next to api.MaxText.
func ofLength(n int) api.Program {
	f := code(append(repeated(api.MaxCode-1, api.Instr{Op: api.Const, A: 7, Imm: math.MaxUint64}), ret)...)
	p := cloned(program(f, f, f))
	over := len(programText(p)) - n
	for i := 0; over > 0; i++ {
		less := min(over, 19) // of the 20 digits of an Imm
		for range less {
			p.Funcs[i/(api.MaxCode-1)].Code[i%(api.MaxCode-1)].Imm /= 10
		}
		over -= less
	}
	return p
}

func TestGreatestText(t *testing.T) {
	for n := api.MaxText - 2; n <= api.MaxText; n++ {
		p := ofLength(n)
		s := programText(p)
		if len(s) != n {
			t.Fatalf("the text has %d bytes, not %d", len(s), n)
		}
		checkFormat(t, "almost too long", p, s, api.OK)
		if got, _, e := checkParse(t, s); e != api.OK || !equal(got, p) {
			t.Errorf("Parse of %d bytes returned the error %d", n, e)
		}
	}
	for _, n := range []int{api.MaxText + 1, api.MaxText + 2, api.MaxText + 1000} {
		checkFormat(t, "too long", ofLength(n), "", api.ErrLimit)
		expect(t, "too long", programText(ofLength(n)), 0, api.ErrLimit)
	}
	f := api.Func{Slots: repeated(api.MaxSlots, api.Slot{Size: 16, Align: api.MaxAlign}), Code: repeated(api.MaxCode, ret)}
	checkFormat(t, "the most of everything", program(repeated(api.MaxFuncs, f)...), "", api.ErrLimit)
}

// The last line of a text may lack its line feed, and that of Format does not: this program has a text of api.MaxText bytes, but not that of Format.
func TestLineFeedBeyondTheLimit(t *testing.T) {
	p := ofLength(api.MaxText + 1)
	s := strings.TrimSuffix(programText(p), "\n")
	if got, line, e := checkParse(t, s); e != api.OK || line != 0 || !equal(got, p) {
		t.Errorf("Parse of %d bytes returned %d, %d", len(s), line, e)
	}
	checkFormat(t, "a byte too long", p, "", api.ErrLimit)
}

// An error of sir.Check is the first one also for a text that is too long.
func TestFormatOfWrongLongPrograms(t *testing.T) {
	p := ofLength(api.MaxText + 1000)
	p.Funcs[2].Params = 9
	checkFormat(t, "a wrong function", p, "", api.ErrRange)
	p.Funcs[0].Params = 1
	checkFormat(t, "a wrong entry", p, "", api.ErrArity)
}

// P7.4

func TestParseExample(t *testing.T) {
	want := program(api.Func{
		Slots: []api.Slot{{Size: 8, Align: 8}},
		Code:  []api.Instr{{Op: api.Const, A: 1, Imm: 7}, {Op: api.Store, A: 0, B: 1}, {Op: api.Load, A: 0, B: 0}, ret},
	})
	for _, s := range []string{
		"func 0\nslot 8 8\nconst r1 7\nstore s0 r1\nload r0 s0\nreturn\n",
		"func 0\nslot 8 8\nconst r1 7\nstore s0 r1\nload r0 s0\nreturn",
		"\n\nfunc 0\n\nslot 8 8\n \nconst r1 7\n\t\nstore s0 r1\n#\nload r0 s0\n # \nreturn\n\n\n",
		" func 0 \n\tslot\t8\t8\t\n  const  r1  7  \n \t store \t s0 \t r1 \t \nload r0\ts0\n\treturn",
		"func 0# no parameters\nslot 8 8 # slot 1 1\nconst r1 7 ## 8\n#\nstore s0 r1#r2\nload r0 s0 #\nreturn#",
		"# a comment \x00\r\v\f\xff\u00a0\u2028 may have every byte\nfunc 0\nslot 8 8\nconst r1 7\nstore s0 r1\nload r0 s0\nreturn # \r\xc3",
	} {
		if got, line, e := checkParse(t, s); e != api.OK || line != 0 || !equal(got, want) {
			t.Errorf("Parse(%q) returned %v, %d, %d", s, got, line, e)
		}
	}
}

func TestSyntaxErrors(t *testing.T) {
	for _, x := range []struct {
		name, s string
		line    int
	}{
		// What may not stand there.
		{"an instruction first", "return", 1},
		{"an instruction before func", "\n# text\nreturn\nfunc 0\nreturn", 3},
		{"a slot first", "slot 8 8\nfunc 0\nreturn", 1},
		{"a slot after an instruction", "func 0\nslot 8 8\nreturn\nslot 8 8", 4},
		{"a slot after an instruction of a later function", "func 0\nreturn\nfunc 0\nslot 8 8\nreturn\nslot 8 8\nreturn", 6},
		{"a slot after the instructions of the function before", "func 0\nslot 8 8\nin r1\nslot 4 4\nreturn", 4},
		{"too great a number in a slot first", "slot 2147483648 8", 1},
		{"too great a number in an instruction first", "jump @2147483648", 1},
		{"too great a number in a slot after an instruction", "func 0\nreturn\nslot 8 2147483648", 3},
		{"a wrong line later", "return\nfunc", 1},

		// The number of words.
		{"func alone", "func", 1},
		{"func with two numbers", "func 0 0", 1},
		{"func with a name", "func main", 1},
		{"func with an empty comment", "func #0", 1},
		{"slot alone", "func 0\nslot\nreturn", 2},
		{"slot with one number", "func 0\nslot 8\nreturn", 2},
		{"slot with three numbers", "func 0\nslot 8 8 8\nreturn", 2},
		{"slot with a name", "func 0\nslot s0 8\nreturn", 2},
		{"return with an operand", "func 0\nreturn r0", 2},
		{"two instructions", "func 0\nreturn return", 2},
		{"two lines in one", "func 0 return", 1},
		{"no Imm", "func 0\nconst r1\nreturn", 2},
		{"a second Imm", "func 0\nconst r1 7 7\nreturn", 2},
		{"no third operand", "func 0\nadd r1 r2\nreturn", 2},
		{"a fourth operand", "func 0\nadd r1 r2 r3 r4\nreturn", 2},
		{"an operand in a comment", "func 0\nin #r1\nreturn", 2},
		{"a comment in an operand", "func 0\nin r#1\nreturn", 2},

		// The forms of words.
		{"no blank", "func0\nreturn", 1},
		{"no blank between operands", "func 0\ncopy r1r2\nreturn", 2},
		{"a blank in an operand", "func 0\nin r 1\nreturn", 2},
		{"commas", "func 0\ncopy r1, r2\nreturn", 2},
		{"a slot for a register", "func 0\nin s1\nreturn", 2},
		{"no letter", "func 0\nin 1\nreturn", 2},
		{"two letters", "func 0\nin rr1\nreturn", 2},
		{"a great letter", "func 0\nin R1\nreturn", 2},
		{"a letter after the number", "func 0\nin 1r\nreturn", 2},
		{"no number", "func 0\nin r\nreturn", 2},
		{"a letter before Imm", "func 0\nconst r1 r2\nreturn", 2},
		{"a hash before Imm", "func 0\nconst r1 #2\nreturn", 2},
		{"a target without @", "func 0\njump 0", 2},
		{"a parameter like that of P5.2", "func 0\nreturn\nfunc 1\nparam r1 p0\nreturn", 4},
		{"an operation as a number", "func 0\n23", 2},
		{"the name of no operation", "func 0\n?", 2},
		{"an empty word", "func 0\n\"\"", 2},

		// Numbers.
		{"a negative number", "func -1\nreturn", 1},
		{"a negative operand", "func 0\nin r-1\nreturn", 2},
		{"a negative Imm", "func 0\ntrap -1", 2},
		{"a negative zero", "func -0\nreturn", 1},
		{"a plus", "func +1\nreturn", 1},
		{"two zeros", "func 00\nreturn", 1},
		{"a leading zero", "func 0\nin r01\nreturn", 2},
		{"20 digits after a zero", "func 0\ntrap 018446744073709551615", 2},
		{"20 digits with a leading zero", "func 0\ntrap 01844674407370955161", 2},
		{"21 digits", "func 0\ntrap 100000000000000000000", 2},
		{"21 digits of an operand", "func 0\njump @999999999999999999999", 2},
		{"21 zeros", "func 0\ntrap 000000000000000000000", 2},
		{"a hexadecimal number", "func 0\ntrap 0x1", 2},
		{"hexadecimal digits", "func 0\ntrap a", 2},
		{"an underscore", "func 0\ntrap 1_000", 2},
		{"a point", "func 0\ntrap 1.0", 2},
		{"an exponent", "func 0\ntrap 1e3", 2},
		{"other digits", "func 0\ntrap \u0661", 2},
		{"wide digits", "func 0\ntrap \uff11", 2},
		{"a byte before 0", "func 0\ntrap 1/", 2},
		{"a byte after 9", "func 0\ntrap :1", 2},

		// Other bytes.
		{"a carriage return", "func 0\r\nreturn\r\n", 1},
		{"a carriage return in an empty line", "func 0\n\r\nreturn", 2},
		{"a carriage return for a line feed", "func 0\rreturn", 1},
		{"a carriage return at the end", "func 0\nreturn\r", 2},
		{"a vertical tab", "func\v0\nreturn", 1},
		{"a form feed", "func 0\nreturn\n\f\n", 3},
		{"a blank without a break", "func 0\nreturn\u00a0", 2},
		{"a next line", "func 0\u0085return", 1},
		{"a line separator", "func 0\u2028return", 1},
		{"a byte order mark", "\ufefffunc 0\nreturn", 1},
		{"a zero byte", "func 0\x00\nreturn", 1},
		{"a zero byte at the end", "func 0\nreturn\n\x00", 3},
		{"a byte that is no rune", "func 0\nreturn\n\xff", 3},
		{"the byte 0xA0", "func 0\nreturn\xa0", 2},
		{"an odd byte before a comment", "func 0\nreturn\n\x01# text", 3},

		// Each line is looked at by itself.
		{"an operand in the next line", "func 0\nin\nr1\nreturn", 2},
		{"a comment that goes on", "func 0\n# a comment\nthat goes on\nreturn", 3},
		{"another comment", "func 0\n// text\nreturn", 2},
	} {
		expect(t, x.name, x.s, x.line, api.ErrSyntax)
	}
}

func TestRangeErrors(t *testing.T) {
	for _, x := range []struct {
		name, s string
		line    int
		want    api.Errno
	}{
		{"the greatest Params", "func 0\nreturn\nfunc 2147483647\nreturn", 0, api.ErrRange},
		{"too great Params", "func 0\nreturn\nfunc 2147483648\nreturn", 3, api.ErrRange},
		{"too great Params of the entry", "func 2147483648\nreturn", 1, api.ErrRange},
		{"the greatest Params of the entry", "func 2147483647\nreturn", 0, api.ErrArity},
		{"the greatest Size", "func 0\nslot 2147483647 8\nreturn", 0, api.ErrSize},
		{"too great a Size", "func 0\nslot 2147483648 8\nreturn", 2, api.ErrRange},
		{"the greatest Align", "func 0\nslot 8 2147483647\nreturn", 0, api.ErrSize},
		{"too great an Align", "func 0\nslot 8 2147483648\nreturn", 2, api.ErrRange},
		{"the greatest target", "func 0\njump @2147483647", 0, api.ErrTarget},
		{"too great a target", "func 0\njump @2147483648", 2, api.ErrRange},
		{"the greatest register", "func 0\nin r2147483647\nreturn", 0, api.ErrRange},
		{"too great a register", "func 0\nin r2147483648\nreturn", 2, api.ErrRange},
		{"the register 2^32", "func 0\nin r4294967296\nreturn", 2, api.ErrRange},
		{"the register 2^63", "func 0\nin r9223372036854775808\nreturn", 2, api.ErrRange},
		{"the register 2^64", "func 0\nin r18446744073709551616\nreturn", 2, api.ErrRange},
		{"the register of 20 digits", "func 0\nin r99999999999999999999\nreturn", 2, api.ErrRange},
		{"the register before Imm", "func 0\nconst r2147483648 7\nreturn", 2, api.ErrRange},
		{"the Imm 2^31", "func 0\ntrap 2147483648", 0, api.OK},
		{"the Imm 2^63", "func 0\ntrap 9223372036854775808", 0, api.OK},
		{"the Imm 2^64 - 1", "func 0\ntrap 18446744073709551615", 0, api.OK},
		{"the Imm 2^64", "func 0\ntrap 18446744073709551616", 2, api.ErrRange},
		{"the Imm of 20 digits", "func 0\ntrap 99999999999999999999", 2, api.ErrRange},
		{"the Imm 10^19", "func 0\ntrap 10000000000000000000", 0, api.OK},
		{"the Imm 2^64 after a register", "func 0\nconst r1 18446744073709551616\nreturn", 2, api.ErrRange},
	} {
		expect(t, x.name, x.s, x.line, x.want)
	}
}

// Of two errors that of the first line is returned; in one line, that of its form.
func TestOrderOfParseErrors(t *testing.T) {
	for _, x := range []struct {
		name, s string
		line    int
		want    api.Errno
	}{
		{"range before syntax in a later line", "func 0\nin r2147483648\nreturn r0", 2, api.ErrRange},
		{"syntax before range in a later line", "func 0\nreturn r0\nin r2147483648", 2, api.ErrSyntax},
		{"range twice", "func 2147483648\nin r2147483648\nreturn", 1, api.ErrRange},
		{"range and then syntax in a line", "func 0\ncopy r2147483648 x\nreturn", 2, api.ErrSyntax},
		{"syntax and then range in a line", "func 0\ncopy x r2147483648\nreturn", 2, api.ErrSyntax},
		{"range and then range in a line", "func 0\ncopy r2147483648 r2147483648\nreturn", 2, api.ErrRange},
		{"range, right, and then syntax in a line", "func 0\nadd r2147483648 r0 s0\nreturn", 2, api.ErrSyntax},
		{"range and then 21 digits", "func 0\nconst r2147483648 100000000000000000000\nreturn", 2, api.ErrSyntax},
		{"range and then a word too many", "func 0\nin r2147483648 0\nreturn", 2, api.ErrSyntax},
		{"range and then a word too few", "func 0\ncopy r2147483648\nreturn", 2, api.ErrSyntax},
		{"range of Size and then syntax of Align", "func 0\nslot 2147483648 08\nreturn", 2, api.ErrSyntax},
		{"syntax before an error of the program", "func 1\nslot 3 3\nin r8\njump @9\n.", 5, api.ErrSyntax},
		{"range before an error of the program", "func 1\nslot 3 3\nin r8\njump @2147483648", 4, api.ErrRange},
		{"syntax after too many functions", strings.Repeat("func 0\nreturn\n", 81) + "x", 163, api.ErrSyntax},
		{"range after too much code", "func 0\n" + strings.Repeat("return\n", 1025) + "in r2147483648", 1027, api.ErrRange},
		{"lines without words count", "\n# text\n\t\nfunc 0\n\n\nreturn 0", 7, api.ErrSyntax},
		{"the last line without a line feed", "func 0\nreturn\nx", 3, api.ErrSyntax},
		{"the last line with a line feed", "func 0\nreturn\nx\n", 3, api.ErrSyntax},
	} {
		expect(t, x.name, x.s, x.line, x.want)
	}
}

// These texts have the form of a program that is not right.
func TestParseOfWrongPrograms(t *testing.T) {
	for _, x := range []struct {
		name, s string
		want    api.Errno
	}{
		{"nothing", "", api.ErrRange},
		{"a line feed", "\n", api.ErrRange},
		{"only comments", "# func 0\n\t# return", api.ErrRange},
		{"no code", "func 0", api.ErrTarget},
		{"only slots", "func 0\nslot 8 8", api.ErrTarget},
		{"no code before another function", "func 0\nfunc 0\nreturn", api.ErrTarget},
		{"80 functions", strings.Repeat("func 0\nreturn\n", 80), api.OK},
		{"81 functions", strings.Repeat("func 0\nreturn\n", 81), api.ErrLimit},
		{"1024 instructions", "func 0\n" + strings.Repeat("return\n", 1024), api.OK},
		{"1025 instructions", "func 0\n" + strings.Repeat("return\n", 1025), api.ErrLimit},
		{"512 slots", "func 0\n" + strings.Repeat("slot 1 1\n", 512) + "return", api.OK},
		{"513 slots", "func 0\n" + strings.Repeat("slot 1 1\n", 513) + "return", api.ErrLimit},
		{"8 parameters", "func 0\nreturn\nfunc 8\nreturn", api.OK},
		{"9 parameters", "func 0\nreturn\nfunc 9\nreturn", api.ErrRange},
		{"an entry with parameters", "func 1\nreturn", api.ErrArity},
		{"a slot of 3 bytes", "func 0\nslot 3 4\nreturn", api.ErrSize},
		{"a slot of no bytes", "func 0\nslot 0 4\nreturn", api.ErrSize},
		{"the alignment 2^24", "func 0\nslot 8 16777216\nreturn", api.OK},
		{"the alignment 2^25", "func 0\nslot 8 33554432\nreturn", api.ErrSize},
		{"a register that does not exist", "func 0\nin r8\nreturn", api.ErrRange},
		{"a slot that does not exist", "func 0\nslot 8 8\nload r0 s1\nreturn", api.ErrRange},
		{"a slot of another function", "func 0\nslot 8 8\nreturn\nfunc 0\nload r0 s0\nreturn", api.ErrRange},
		{"a function that does not exist", "func 0\ncall f1\nreturn", api.ErrRange},
		{"a later function", "func 0\ncall f1\nreturn\nfunc 0\nreturn", api.OK},
		{"an argument that does not exist", "func 0\narg a8 r0\nreturn", api.ErrRange},
		{"a parameter that does not exist", "func 0\nreturn\nfunc 1\nparam r0 a1\nreturn", api.ErrRange},
		{"a move between two sizes", "func 0\nslot 8 8\nslot 4 4\nmove s0 s1\nreturn", api.ErrSize},
		{"a target that does not exist", "func 0\njump @1", api.ErrTarget},
		{"code that runs off its end", "func 0\nin r0", api.ErrTarget},
	} {
		expect(t, x.name, x.s, 0, x.want)
	}
}

func TestLengthOfText(t *testing.T) {
	for _, s := range []string{"func 0\nreturn\n", "func 0\nreturn#"} {
		for _, fill := range []string{" ", "\t", "#", "\n"} {
			room := api.MaxText - len(s)
			expect(t, "as long as may be", s+strings.Repeat(fill, room), 0, api.OK)
			expect(t, "too long", s+strings.Repeat(fill, room+1), 0, api.ErrLimit)
			expect(t, "much too long", s+strings.Repeat(fill, room+api.MaxText), 0, api.ErrLimit)
		}
	}
	blank := strings.Repeat("\n", api.MaxText-1)
	expect(t, "a wrong last line", blank+"x", api.MaxText, api.ErrSyntax)
	expect(t, "only line feeds", blank+"\n", 0, api.ErrRange)
	expect(t, "too long before a wrong line", "x"+blank+"\n", 0, api.ErrLimit)
	expect(t, "too long, in bytes and not in runes", "#"+strings.Repeat("\u00e4", api.MaxText/2), 0, api.ErrLimit)
}

// sample is a right program in which every operation occurs.
func sample() api.Program {
	f := api.Func{Params: 3, Slots: []api.Slot{{Size: 4, Align: 4}, {Size: 4, Align: 1 << 24}}}
	for op := range api.Ops {
		x := api.Instr{Op: op}
		for i, kind := range kindsOf(op) {
			if kind == '#' {
				x.Imm = 1 << 40
			} else {
				*abc(&x)[i] = 1
			}
		}
		f.Code = append(f.Code, x)
	}
	return program(code(api.Instr{Op: api.Out, A: 6}, ret), f)
}

// In place of each word of each kind of line stand other words, and before and after each word one more.
func TestEveryWord(t *testing.T) {
	digits := strings.Fields("0 1 7 8 00 01 10 2147483647 2147483648 4294967295 4294967296 9223372036854775807 9223372036854775808 18446744073709551615 18446744073709551616 18446744073709551617 99999999999999999999 100000000000000000000 340282366920938463463374607431768211456 -1 +1 -0 1- 0x1 0b1 0o1 1_0 1.0 1e3 a r s f @ \u0661 \uff11 1\x00")
	others := strings.Fields(names + " func slot ? r s f a @ p t n i rr0 r0r r0s0 R0 %0 $0 _0")
	for _, letter := range append(strings.Split("rsfa@ptni", ""), "") {
		for _, number := range digits {
			others = append(others, letter+number)
		}
	}
	found := map[api.Errno]int{}
	count := func(words ...string) {
		_, _, e := checkParse(t, strings.Join(words, " "))
		found[e]++
	}
	all := strings.Split(strings.TrimSuffix(programText(sample()), "\n"), "\n")
	before := "func 0\nreturn\nfunc 8\nslot 1 1\nslot 1 1\n"
	for _, line := range append(all, "func 0", "slot 8 8") {
		words := append([]string{before}, strings.Split(line, " ")...)
		for i := 1; i <= len(words); i++ {
			for _, other := range others {
				count(slices.Concat(words[:i], []string{other}, words[min(i+1, len(words)):], []string{"\nreturn"})...)
				count(slices.Concat(words[:i], []string{other}, words[i:], []string{"\nreturn"})...)
			}
		}
	}
	for _, e := range []api.Errno{api.OK, api.ErrSyntax, api.ErrRange} {
		if found[e] < 200 {
			t.Errorf("only %d of the texts are %d", found[e], e)
		}
	}
}

// Every byte is replaced by every other one, left out, and doubled.
func TestEveryByte(t *testing.T) {
	s := programText(sample())
	for i := range len(s) {
		for c := range 256 {
			checkParse(t, s[:i]+string([]byte{byte(c)})+s[i+1:])
		}
		checkParse(t, s[:i]+s[i+1:])
		checkParse(t, s[:i+1]+s[i:])
		checkParse(t, s[:i])
	}
}

// Every byte stands alone in a line, and after a word.
func TestOtherBytes(t *testing.T) {
	for c := range 256 {
		b := string([]byte{byte(c)})
		fine := strings.Contains(" \t\n#", b)
		for s, line := range map[string]int{
			b + "\nfunc 0\nreturn":        1,
			"func 0\n" + b + "\nreturn":   2,
			"func 0\nreturn\n" + b:        3,
			"func 0" + b + "\nreturn":     1,
			"func 0\nreturn" + b:          2,
			"func 0\nreturn " + b + " \n": 2,
		} {
			if fine {
				expect(t, "a byte that separates", s, 0, api.OK)
			} else {
				expect(t, "another byte", s, line, api.ErrSyntax)
			}
		}
	}
}

// spaced returns a text of the program of s in which there are more blanks, lines without words, and comments.
func (c *chance) spaced(s string) string {
	var out strings.Builder
	gap := func(l ...string) string { return strings.Repeat(pick(c, l), 1+c.below(3)) }
	for line := range strings.Lines(s) {
		line = strings.TrimSuffix(line, "\n")
		for i, word := range strings.Split(line, " ") {
			if i > 0 || c.below(4) == 0 {
				out.WriteString(gap(" ", "\t", " \t", " "))
			}
			out.WriteString(word)
		}
		if c.below(4) == 0 {
			out.WriteString(gap(" ", "\t", "#", "# return", " #\r", "#\xff#"))
		}
		out.WriteString(gap("\n", "\n", "\n \n", "\n# text\n"))
	}
	return strings.TrimRight(out.String(), pick(c, []string{"", "\n", "\n \t"}))
}

func TestParseOfModel(t *testing.T) {
	c := chance(3)
	for i := range 1500 {
		p := c.right(4, 5, 12)
		if i%100 == 0 {
			p = c.right(3, 100, 300)
		}
		for _, s := range []string{programText(p), c.spaced(programText(p))} {
			if got, line, e := checkParse(t, s); e != api.OK || line != 0 || !equal(got, p) {
				t.Fatalf("Parse(%q) returned %v, %d, %d, not %v", s, got, line, e, p)
			}
		}
	}
}

// spoiled returns a text with some changes.
func (c *chance) spoiled(s string) string {
	pieces := strings.Split(" |\t|\n|#|0|1|7|8|9|r|s|f|a|@|r0|s0|f1|a0|@0|-|func 0|slot 8 8|return|jump|trap|const|2147483648|18446744073709551616|\r|\x00", "|")
	for range 1 + c.below(3) {
		i := c.below(len(s) + 1)
		k := i + c.below(min(len(s)-i, 20)+1)
		switch c.below(4) {
		case 0:
			s = s[:i] + pick(c, pieces) + s[i:]
		case 1:
			s = s[:i] + s[k:]
		case 2:
			s = s[:i] + pick(c, pieces) + s[k:]
		default:
			l := strings.SplitAfter(s, "\n")
			a, b := c.below(len(l)), c.below(len(l))
			l[a], l[b] = l[b], l[a]
			s = strings.Join(l, "")
		}
	}
	return s
}

func TestSpoiledTexts(t *testing.T) {
	c := chance(4)
	found := map[api.Errno]int{}
	for range 8000 {
		_, _, e := checkParse(t, c.spoiled(c.spaced(programText(c.right(3, 3, 4)))))
		found[e]++
	}
	for _, e := range []api.Errno{api.OK, api.ErrRange, api.ErrTarget, api.ErrSyntax} {
		if found[e] < 50 {
			t.Errorf("only %d of the texts are %d", found[e], e)
		}
	}
}

func TestTextsWithoutAPattern(t *testing.T) {
	c := chance(5)
	words := strings.Fields(names + " func func func func slot slot return return 0 0 1 8 r0 r1 s0 s1 f0 f1 a0 @0 @1")
	for range 8000 {
		var s strings.Builder
		for range c.below(30) {
			s.WriteString(pick(&c, words))
			s.WriteString(pick(&c, []string{" ", "\n", "\n", "\t", "#", ""}))
		}
		checkParse(t, s.String())
		b := make([]byte, c.below(40))
		for i := range b {
			b[i] = byte(c.below(256) >> c.below(8))
		}
		checkParse(t, string(b))
		checkParse(t, "func 0\nreturn\n"+string(b))
	}
}

// The consequences of chapter 7.
func TestThereAndBack(t *testing.T) {
	c := chance(6)
	l := []api.Program{program(code(ret)), sample(), ofLength(api.MaxText)}
	for range 500 {
		l = append(l, c.right(4, 20, 60))
	}
	for _, p := range l {
		s, e := sirtext.Format(p)
		if e != api.OK {
			t.Fatalf("Format returned %d", e)
		}
		got, line, e := sirtext.Parse(s)
		if e != api.OK || line != 0 || !sir.Same(got, p) {
			t.Fatalf("Parse of Format of %v returned %v, %d, %d", p, got, line, e)
		}
		if again, e := sirtext.Format(got); e != api.OK || again != s {
			t.Fatalf("Format of Parse of %q returned %q, %d", s, again, e)
		}
	}
}

// Writing to all memory of a list of a result changes no other list, and no later result.
func TestMemoryOfParse(t *testing.T) {
	s := text("func 0", "slot 8 8", "slot 8 4", "return", "return", "func 1", "slot 1 1", "slot 1 2", "slot 1 4", "in r1", "return", "func 0", "return")
	want, _, _ := parsed(s)
	for i := range want.Funcs {
		got, _, _ := sirtext.Parse(s)
		f := got.Funcs[i]
		clear(f.Slots[:cap(f.Slots)])
		clear(f.Code[:cap(f.Code)])
		for k, other := range got.Funcs {
			if k != i && !equalFuncs(other, want.Funcs[k]) {
				t.Errorf("the functions %d and %d share memory", i, k)
			}
		}
		clear(got.Funcs[:cap(got.Funcs)])
		checkParse(t, s)
	}
}
