package sirrun_test

import (
	"math"
	"slices"
	"strconv"
	"strings"
	"sync"
	"testing"

	"spillframe/api"
	"spillframe/sir"
	"spillframe/sirrun"
	"spillframe/sirtext"
)

// program reads a right program of which semicolons end the lines.
func program(t *testing.T, text string) api.Program {
	t.Helper()
	p, line, e := sirtext.Parse(strings.ReplaceAll(text, ";", "\n"))
	if e != api.OK {
		t.Fatalf("%q has the error %d in line %d", text, e, line)
	}
	return p
}

func repeat(n int, text string) string {
	return strings.Repeat(text, n)
}

// los are values whose high words are 0.
func los(l ...uint64) []api.Value {
	var out []api.Value
	for _, n := range l {
		out = append(out, api.Value{Lo: n})
	}
	return out
}

func equal(a, b api.Outcome) bool {
	if len(a.Trace) != len(b.Trace) {
		return false
	}
	for i, v := range a.Trace {
		if v.Lo != b.Trace[i].Lo || v.Hi != b.Trace[i].Hi {
			return false
		}
	}
	return a.Kind == b.Kind && a.Code == b.Code && a.Result.Lo == b.Result.Lo && a.Result.Hi == b.Result.Hi && a.Steps == b.Steps
}

// arguments are a program and an input with spare capacity in which the lists would go on.
type arguments struct {
	p     api.Program
	input []uint64
}

func roomy[T any](l []T, spare ...T) []T {
	return append(slices.Clone(l), spare...)[:len(l)]
}

func newArguments(p api.Program, input []uint64) arguments {
	funcs := roomy(p.Funcs, api.Func{Params: -1}, api.Func{Code: []api.Instr{{Op: api.Return}}})
	for i, f := range funcs {
		funcs[i].Slots = roomy(f.Slots, api.Slot{Size: 4, Align: 1 << 20}, api.Slot{Size: 3, Align: 3})
		funcs[i].Code = roomy(f.Code, api.Instr{Op: api.Return}, api.Instr{Op: 99, A: 7})
	}
	return arguments{api.Program{Funcs: funcs}, roomy(input, 77, 78)}
}

// whole returns a copy of all memory of the arguments.
func (a arguments) whole() arguments {
	funcs := slices.Clone(a.p.Funcs[:cap(a.p.Funcs)])
	for i, f := range funcs {
		funcs[i].Slots = slices.Clone(f.Slots[:cap(f.Slots)])
		funcs[i].Code = slices.Clone(f.Code[:cap(f.Code)])
	}
	return arguments{api.Program{Funcs: funcs}, slices.Clone(a.input[:cap(a.input)])}
}

// called returns what Run and Depth return for a copy of the arguments that has spare capacity, and checks that they leave all of its memory as it is.
func called(t *testing.T, p api.Program, input []uint64, fuel int) (api.Outcome, int, api.Errno) {
	t.Helper()
	a := newArguments(p, input)
	before := a.whole()
	o, e := sirrun.Run(a.p, a.input, fuel)
	depth, depthE := sirrun.Depth(a.p, a.input, fuel)
	if e != depthE {
		t.Fatalf("Run returned the error %d and Depth %d: %v", e, depthE, p)
	}
	after := a.whole()
	if !sir.Same(after.p, before.p) || !slices.Equal(after.input, before.input) {
		t.Fatalf("Run or Depth changed an argument: %v, %v", p, input)
	}
	return o, depth, e
}

// check compares Run and Depth with the model.
func check(t *testing.T, p api.Program, input []uint64, fuel int) api.Outcome {
	t.Helper()
	o, depth, e := called(t, p, input, fuel)
	want, wantDepth := modelled(p, input, fuel)
	if e != api.OK || !equal(o, want) || depth != wantDepth {
		t.Fatalf("with the fuel %d and the input %v, Run and Depth returned %v, %d, %d, not %v, %d: %v", fuel, input, o, depth, e, want, wantDepth, p)
	}
	return o
}

// checkFuels compares Run and Depth with the model for every fuel up to beyond the end, but at most 300.
func checkFuels(t *testing.T, p api.Program, input []uint64) {
	t.Helper()
	steps := check(t, p, input, 300).Steps
	for fuel := range steps + 3 {
		check(t, p, input, fuel)
	}
}

type example struct {
	name, text string
	input      []uint64
	want       api.Outcome
	depth      int
}

// expect checks the outcome and the depth of each example, and compares shorter runs of it with the model.
func expect(t *testing.T, examples []example) {
	t.Helper()
	for _, x := range examples {
		p := program(t, x.text)
		o, depth, e := called(t, p, x.input, api.MaxFuel)
		if e != api.OK || !equal(o, x.want) {
			t.Errorf("%s: Run returned %v, %d, not %v", x.name, o, e, x.want)
		}
		if depth != x.depth {
			t.Errorf("%s: Depth returned %d, not %d", x.name, depth, x.depth)
		}
		checkFuels(t, p, x.input)
	}
}

func returned(steps int, result uint64, trace ...uint64) api.Outcome {
	return api.Outcome{Steps: steps, Result: api.Value{Lo: result}, Trace: los(trace...)}
}

func stopped(kind, steps int, trace ...uint64) api.Outcome {
	return api.Outcome{Kind: kind, Steps: steps, Trace: los(trace...)}
}

// P8.1

func TestBeginning(t *testing.T) {
	expect(t, []example{
		{"registers are 0", "func 0; out r0; out r1; out r2; out r3; out r4; out r5; out r6; out r7; return", nil, returned(9, 0, 0, 0, 0, 0, 0, 0, 0, 0), 1},
		{"function 0, instruction 0", "func 0; const r0 1; out r0; const r0 2; return; func 0; const r0 3; return", nil, returned(4, 2, 1), 1},
		{"no slot is defined", "func 0; slot 8 8; slot 8 8; const r1 5; store s1 r1; load r0 s1; load r0 s0; return", nil, stopped(api.Undef, 4), 1},
		{"no argument is defined", "func 0; const r1 5; arg a1 r1; call f1; return; func 2; param r0 a1; out r0; param r0 a0; return", nil, stopped(api.Undef, 6, 5), 2},
	})
	for n := range 8 {
		checkFuels(t, program(t, "func 0; const r1 5; call f1; return; func 8; param r0 a"+strconv.Itoa(n)+"; return"), nil)
	}
}

func TestActivations(t *testing.T) {
	expect(t, []example{
		{"a function begins without slots each time", "func 0; const r1 1; call f1; const r1 0; call f1; return; func 0; slot 4 4; branch r1 @3; load r0 s0; return; store s0 r1; load r0 s0; return", nil, stopped(api.Undef, 10), 2},
		{"a function begins at instruction 0 each time", "func 0; call f1; call f1; return; func 0; const r0 1; out r0; const r0 2; return", nil, returned(11, 2, 1, 1), 2},
		{"a function begins without arguments each time", "func 0; const r1 1; call f1; const r1 0; call f1; return; func 0; branch r1 @3; call f2; return; arg a0 r1; call f2; return; func 1; param r2 a0; out r2; return", nil, stopped(api.Undef, 14, 1), 3},
		{"the slots of the caller stay", "func 0; slot 2 2; const r1 5; store s0 r1; call f1; load r0 s0; return; func 0; slot 2 2; const r1 6; store s0 r1; load r2 s0; out r2; return", nil, returned(10, 5, 6), 2},
		{"the slots of the caller are not those of the called function", "func 0; slot 2 2; const r1 5; store s0 r1; call f1; return; func 0; slot 2 2; load r0 s0; return", nil, stopped(api.Undef, 4), 2},
		{"the slots of the called function are not those of the caller", "func 0; slot 2 2; call f1; load r0 s0; return; func 0; slot 2 2; const r1 5; store s0 r1; return", nil, stopped(api.Undef, 5), 2},
		{"the arguments stay after a call", "func 0; const r1 5; arg a0 r1; const r1 6; arg a1 r1; call f1; const r1 7; arg a1 r1; call f1; return; func 2; param r2 a0; out r2; param r2 a1; out r2; return", nil, returned(19, 0, 5, 6, 5, 7), 2},
		{"registers are shared", "func 0; const r0 5; call f1; out r1; return; func 0; copy r1 r0; const r0 6; return", nil, returned(7, 6, 5), 2},
		{"each activation of a function has slots of its own", "func 0; const r1 3; const r2 1; call f1; return; func 0; slot 8 8; store s0 r1; sub r1 r1 r2; branch r1 @4; jump @5; call f1; load r0 s0; out r0; return", nil, returned(25, 3, 1, 2, 3), 4},
		{"the entry can be called", "func 0; slot 8 8; in r1; store s0 r1; branch r1 @4; return; call f0; load r0 s0; out r0; return", []uint64{9, 8}, returned(18, 9, 8, 9), 3},
	})
}

// P8.2

func TestFuel(t *testing.T) {
	p := program(t, "func 0; const r0 5; out r0; return")
	for fuel, want := range []api.Outcome{stopped(api.Fuel, 0), stopped(api.Fuel, 1), stopped(api.Fuel, 2, 5), returned(3, 5, 5), returned(3, 5, 5)} {
		o, e := sirrun.Run(p, nil, fuel)
		if e != api.OK || !equal(o, want) {
			t.Errorf("with the fuel %d Run returned %v, %d, not %v", fuel, o, e, want)
		}
	}
	loop := program(t, "func 0; jump @0")
	for _, fuel := range []int{0, 1, 2, 99999, 100000} {
		o, depth, e := called(t, loop, nil, fuel)
		if e != api.OK || !equal(o, stopped(api.Fuel, fuel)) || depth != 1 {
			t.Errorf("a loop with the fuel %d: %v, %d, %d", fuel, o, depth, e)
		}
	}
	// The last step ends the run, so that it does not end for lack of fuel.
	exact := program(t, "func 0; const r0 33332; const r1 1; sub r0 r0 r1; out r0; branch r0 @2; copy r0 r1; return")
	o, e := sirrun.Run(exact, nil, api.MaxFuel)
	if e != api.OK || o.Kind != api.Returned || o.Steps != api.MaxFuel || o.Result != (api.Value{Lo: 1}) || len(o.Trace) != 33332 {
		t.Errorf("a run of api.MaxFuel steps: %d, %d steps, %v, %d", o.Kind, o.Steps, o.Result, e)
	}
	check(t, exact, nil, api.MaxFuel-1)
}

const wide = "in r1; in r2; pair r3 r1 r2; in r1; in r2; pair r4 r1 r2; "

// The registers 3 and 4 are {1, 2} and {3, 1}, as far as the operation does not replace them.
func TestComputation(t *testing.T) {
	max64 := uint64(math.MaxUint64)
	for _, x := range []struct {
		instr, out string
		input      []uint64
		want       api.Value
	}{
		{"const r3 18446744073709551615", "r3", nil, api.Value{Lo: max64}},
		{"const r3 0", "r3", nil, api.Value{}},
		{"copy r5 r3", "r5", nil, api.Value{Lo: 1, Hi: 2}},
		{"copy r3 r4", "r3", nil, api.Value{Lo: 3, Hi: 1}},
		{"copy r3 r4", "r4", nil, api.Value{Lo: 3, Hi: 1}},
		{"add r5 r3 r4", "r5", nil, api.Value{Lo: 4, Hi: 3}},
		{"add r3 r3 r3", "r3", nil, api.Value{Lo: 2, Hi: 4}},
		{"sub r5 r3 r4", "r5", nil, api.Value{Lo: max64 - 1}},
		{"sub r5 r4 r3", "r5", nil, api.Value{Lo: 2, Hi: max64}},
		{"mul r5 r3 r4", "r5", nil, api.Value{Lo: 3, Hi: 7}},
		{"div r5 r3 r4", "r5", nil, api.Value{Lo: 1}},
		{"div r4 r3 r0", "r4", []uint64{1, 2, 3, 1, 3}, api.Value{Lo: 0xAAAAAAAAAAAAAAAB}},
		{"and r5 r3 r4", "r5", nil, api.Value{Lo: 1}},
		{"or r5 r3 r4", "r5", nil, api.Value{Lo: 3, Hi: 3}},
		{"xor r5 r3 r4", "r5", nil, api.Value{Lo: 2, Hi: 3}},
		{"less r5 r3 r4", "r5", nil, api.Value{}},
		{"less r5 r4 r3", "r5", nil, api.Value{Lo: 1}},
		{"equal r5 r3 r4", "r5", nil, api.Value{}},
		{"equal r5 r3 r3", "r5", nil, api.Value{Lo: 1}},
		{"pair r5 r3 r4", "r5", nil, api.Value{Lo: 1, Hi: 3}},
		{"pair r3 r4 r3", "r3", nil, api.Value{Lo: 3, Hi: 1}},
		{"high r5 r3", "r5", nil, api.Value{Lo: 2}},
		{"in r3", "r3", []uint64{1, 2, 3, 1, 9, 8}, api.Value{Lo: 8}},
		{"in r3", "r3", []uint64{1, 2, 3, 1, 9, max64}, api.Value{Lo: max64}},
		{"in r3", "r3", []uint64{1, 2, 3, 1, 9}, api.Value{}},
		{"out r3", "r3", nil, api.Value{Lo: 1, Hi: 2}},
	} {
		input := x.input
		if input == nil {
			input = []uint64{1, 2, 3, 1}
		}
		rest := "out r0; out r1; out r2; out r3; out r4; out r5; out r6; out r7; copy r0 " + x.out + "; return"
		p := program(t, "func 0; "+wide+"in r0; "+x.instr+"; "+rest)
		o, e := sirrun.Run(p, input, api.MaxFuel)
		if e != api.OK || o.Kind != api.Returned || o.Result != x.want {
			t.Errorf("%s: register %s is %v, not %v; %d, %d", x.instr, x.out, o.Result, x.want, o.Kind, e)
		}
		checkFuels(t, p, input)
	}
}

func TestDivided(t *testing.T) {
	expect(t, []example{
		{"by zero", "func 0; const r1 5; out r1; div r0 r1 r2; return", nil, stopped(api.Divided, 3, 5), 1},
		{"zero by zero", "func 0; div r0 r0 r0; return", nil, stopped(api.Divided, 1), 1},
		{"in a called function", "func 0; call f1; return; func 0; div r0 r1 r0; return", nil, stopped(api.Divided, 2), 2},
		{"low word 0", "func 0; const r1 1; pair r2 r0 r1; div r0 r2 r2; return", nil, returned(4, 1), 1},
	})
}

func TestInput(t *testing.T) {
	text := "func 0; in r0; out r0; in r0; out r0; in r0; out r0; in r0; out r0; return"
	expect(t, []example{
		{"in order", text, []uint64{7, 8, 9, 10}, returned(9, 10, 7, 8, 9, 10), 1},
		{"none left", text, []uint64{7, 8}, returned(9, 0, 7, 8, 0, 0), 1},
		{"empty", text, []uint64{}, returned(9, 0, 0, 0, 0, 0), 1},
		{"longer", text, []uint64{7, 8, 9, math.MaxUint64, 1}, returned(9, math.MaxUint64, 7, 8, 9, math.MaxUint64), 1},
		{"common to all activations", "func 0; in r0; out r0; call f1; in r0; out r0; return; func 0; in r0; out r0; return", []uint64{7, 8, 9}, returned(9, 9, 7, 8, 9), 2},
	})
}

func TestSlots(t *testing.T) {
	lo, hi := uint64(0x8877665544332211), uint64(0xFFEEDDCCBBAA9988)
	for size, want := range map[string]api.Value{
		"1": {Lo: 0x11}, "2": {Lo: 0x2211}, "4": {Lo: 0x44332211}, "8": {Lo: lo}, "16": {Lo: lo, Hi: hi},
	} {
		slots := "func 0; slot " + size + " 1; slot " + size + " 16777216; in r1; in r2; pair r1 r1 r2; "
		for _, x := range []string{
			slots + "store s1 r1; load r0 s1; out r1; return",
			slots + "store s0 r1; move s1 s0; load r0 s1; out r1; return",
			slots + "store s0 r1; move s1 s0; store s0 r2; load r0 s1; out r1; return",
			slots + "store s0 r2; store s0 r1; move s0 s0; load r0 s0; out r1; return",
		} {
			p := program(t, x)
			o, e := sirrun.Run(p, []uint64{lo, hi}, 100)
			if e != api.OK || o.Kind != api.Returned || o.Result != want || !slices.Equal(o.Trace, []api.Value{{Lo: lo, Hi: hi}}) {
				t.Errorf("%s: Run returned %v, %d, not the result %v", x, o, e, want)
			}
			checkFuels(t, p, []uint64{lo, hi})
		}
	}
	last := program(t, "func 0; "+repeat(511, "slot 8 8; ")+"slot 1 1; const r1 511; store s511 r1; load r0 s511; out r0; load r0 s510; return")
	if o := check(t, last, nil, 100); !equal(o, stopped(api.Undef, 5, 255)) {
		t.Errorf("the last of api.MaxSlots slots: %v", o)
	}
}

func TestUndefined(t *testing.T) {
	expect(t, []example{
		{"load", "func 0; slot 8 8; const r0 5; out r0; load r1 s0; return", nil, stopped(api.Undef, 3, 5), 1},
		{"move", "func 0; slot 8 8; slot 8 8; const r0 5; store s0 r0; move s0 s1; return", nil, stopped(api.Undef, 3), 1},
		{"move to itself", "func 0; slot 8 8; move s0 s0; return", nil, stopped(api.Undef, 1), 1},
		{"move defines", "func 0; slot 8 8; slot 8 8; const r0 5; store s0 r0; move s1 s0; load r0 s1; return", nil, returned(5, 5), 1},
		{"zero is defined", "func 0; slot 8 8; store s0 r0; load r1 s0; call f1; return; func 1; return", nil, returned(5, 0), 2},
		{"an argument of zero is defined", "func 0; arg a7 r0; call f1; return; func 8; param r1 a7; return", nil, returned(5, 0), 2},
		{"a store of another slot", "func 0; slot 8 8; slot 8 8; store s0 r0; load r1 s1; return", nil, stopped(api.Undef, 2), 1},
	})
}

func TestArguments(t *testing.T) {
	sets, gets := "", ""
	for n := range 8 {
		number := strconv.Itoa(n)
		sets += "const r1 1" + number + "; arg a" + number + " r1; "
		gets += "param r2 a" + number + "; out r2; "
	}
	expect(t, []example{
		{"all of them", "func 0; " + sets + "call f1; return; func 8; " + gets + "return", nil, returned(35, 0, 10, 11, 12, 13, 14, 15, 16, 17), 2},
		{"set again", "func 0; " + sets + "const r1 9; arg a3 r1; call f1; return; func 8; " + gets + "return", nil, returned(37, 0, 10, 11, 12, 9, 14, 15, 16, 17), 2},
		{"of 128 bits", "func 0; in r1; in r2; pair r3 r1 r2; arg a0 r3; const r3 0; call f1; return; func 1; param r0 a0; return", []uint64{5, 6}, api.Outcome{Steps: 9, Result: api.Value{Lo: 5, Hi: 6}}, 2},
		{"those of the caller, not its own", "func 0; const r1 5; arg a0 r1; call f1; return; func 1; const r1 6; arg a0 r1; param r0 a0; return", nil, returned(8, 5), 2},
		{"not those of the caller of the caller", "func 0; const r1 5; arg a0 r1; call f1; return; func 1; call f2; return; func 1; param r0 a0; return", nil, stopped(api.Undef, 5), 3},
		{"handed on", "func 0; const r1 5; arg a1 r1; call f1; return; func 2; param r2 a1; arg a0 r2; call f2; param r3 a1; out r3; return; func 1; param r0 a0; return", nil, returned(12, 5, 5), 3},
		{"after the function that set them was called and is at its end", "func 0; call f1; call f2; return; func 0; const r1 5; arg a0 r1; return; func 1; param r0 a0; return", nil, stopped(api.Undef, 6), 2},
		{"to itself", "func 0; const r1 5; arg a0 r1; call f1; return; func 1; param r0 a0; out r0; const r2 1; sub r0 r0 r2; arg a0 r0; branch r0 @7; return; call f1; return", nil, returned(43, 0, 5, 4, 3, 2, 1), 6},
		{"are not slots", "func 0; slot 16 16; const r1 5; store s0 r1; call f1; return; func 1; param r0 a0; return", nil, stopped(api.Undef, 4), 2},
		{"slots are not arguments", "func 0; slot 16 16; const r1 5; arg a0 r1; load r0 s0; return", nil, stopped(api.Undef, 3), 1},
	})
}

func TestControl(t *testing.T) {
	expect(t, []example{
		{"jump", "func 0; jump @3; const r0 1; return; const r0 2; jump @1", nil, returned(5, 1), 1},
		{"branch", "func 0; const r1 1; branch r1 @3; return; const r0 2; return", nil, returned(4, 2), 1},
		{"no branch", "func 0; branch r1 @3; const r0 1; return; const r0 2; return", nil, returned(3, 1), 1},
		{"a branch looks at the low word alone", "func 0; const r1 1; pair r1 r0 r1; branch r1 @4; return; trap 9", nil, returned(4, 0), 1},
		{"a branch looks at the whole low word", "func 0; const r1 9223372036854775808; branch r1 @3; return; const r0 3; return", nil, returned(4, 3), 1},
		{"a branch to itself", "func 0; branch r0 @0; return", nil, returned(2, 0), 1},
		{"call and return", "func 0; call f2; out r0; call f1; out r0; return; func 0; const r0 1; return; func 0; const r0 2; call f1; out r0; const r0 3; return", nil, returned(14, 1, 1, 3, 1), 3},
		{"result", "func 0; in r1; in r2; pair r0 r1 r2; return", []uint64{5, 6}, api.Outcome{Steps: 4, Result: api.Value{Lo: 5, Hi: 6}}, 1},
		{"trap", "func 0; const r0 5; out r0; trap 18446744073709551615", nil, api.Outcome{Kind: api.Trapped, Code: math.MaxUint64, Trace: los(5), Steps: 3}, 1},
		{"trap 0", "func 0; const r0 5; trap 0; return", nil, stopped(api.Trapped, 2), 1},
		{"trap in a called function", "func 0; call f1; return; func 0; const r0 7; trap 3; return", nil, api.Outcome{Kind: api.Trapped, Code: 3, Steps: 3}, 2},
	})
}

// P8.3

// wrong has programs with the error of sir.Check.
func wrong() map[api.Errno]api.Program {
	ret := api.Instr{Op: api.Return}
	of := func(l ...api.Instr) api.Program {
		return api.Program{Funcs: []api.Func{{Slots: []api.Slot{{Size: 8, Align: 8}, {Size: 4, Align: 4}}, Code: l}}}
	}
	return map[api.Errno]api.Program{
		api.ErrRange:  {},
		api.ErrFormat: of(api.Instr{Op: api.Return, C: 1}),
		api.ErrSize:   of(api.Instr{Op: api.Move, A: 1}, ret),
		api.ErrTarget: of(api.Instr{Op: api.Jump, A: 1}),
		api.ErrArity:  {Funcs: []api.Func{{Params: 1, Code: []api.Instr{ret}}}},
		api.ErrLimit:  of(slices.Repeat([]api.Instr{ret}, api.MaxCode+1)...),
	}
}

func expectError(t *testing.T, name string, p api.Program, fuel int, want api.Errno) {
	t.Helper()
	o, depth, e := called(t, p, []uint64{1, 2}, fuel)
	if e != want || !equal(o, api.Outcome{}) || depth != 0 {
		t.Errorf("%s with the fuel %d: %v, %d, %d, not the error %d", name, fuel, o, depth, e, want)
	}
}

func TestErrors(t *testing.T) {
	good := program(t, "func 0; const r0 5; out r0; call f1; return; func 0; return")
	wrongFuel := []int{math.MinInt, -1 << 32, -100000, -1, api.MaxFuel + 1, 1 << 32, 1<<32 + 5, math.MaxInt}
	for want, p := range wrong() {
		for _, fuel := range append(wrongFuel, 0, 1, api.MaxFuel) {
			expectError(t, "a wrong program", p, fuel, want)
		}
	}
	for _, fuel := range wrongFuel {
		expectError(t, "a right program", good, fuel, api.ErrRange)
	}
	for _, fuel := range []int{0, 1, api.MaxFuel - 1, api.MaxFuel} {
		check(t, good, nil, fuel)
	}
	// What is wrong need not be reached.
	hidden := program(t, "func 0; const r0 5; return; func 0; return")
	hidden.Funcs[1].Code = append(hidden.Funcs[1].Code, api.Instr{Op: api.Load}, api.Instr{Op: api.Return})
	expectError(t, "a program with an error that is not reached", hidden, 10, api.ErrRange)
}

// P8.4

func TestEnds(t *testing.T) {
	for kind, want := range map[int]bool{
		api.Returned: true, api.Trapped: true, api.Divided: true, api.Undef: false, api.Fuel: false, api.Overflow: false, api.Wild: false,
		-1: false, 7: false, 256: false, 1 << 32: false, 1<<32 + 1: false, math.MinInt: false, math.MaxInt: false,
	} {
		full := api.Outcome{Kind: kind, Code: 1, Result: api.Value{Lo: 2, Hi: 3}, Trace: los(4), Steps: 5}
		if sirrun.Ends(api.Outcome{Kind: kind}) != want || sirrun.Ends(full) != want {
			t.Errorf("Ends of the kind %d is not %v", kind, want)
		}
	}
}

func TestSame(t *testing.T) {
	base := func() api.Outcome {
		return api.Outcome{Kind: 1, Code: 2, Result: api.Value{Lo: 3, Hi: 4}, Trace: []api.Value{{Lo: 5, Hi: 6}, {Lo: 7, Hi: 8}}, Steps: 9}
	}
	changes := []func(o *api.Outcome){
		func(o *api.Outcome) {},
		func(o *api.Outcome) { o.Kind = 0 },
		func(o *api.Outcome) { o.Kind = -1 },
		func(o *api.Outcome) { o.Kind += 1 << 32 },
		func(o *api.Outcome) { o.Code = 3 },
		func(o *api.Outcome) { o.Code += 1 << 32 },
		func(o *api.Outcome) { o.Result.Lo = 4 },
		func(o *api.Outcome) { o.Result.Hi = 3 },
		func(o *api.Outcome) { o.Result = api.Value{Lo: 4, Hi: 3} },
		func(o *api.Outcome) { o.Trace[0].Lo = 0 },
		func(o *api.Outcome) { o.Trace[0].Hi = 0 },
		func(o *api.Outcome) { o.Trace[1].Lo = 0 },
		func(o *api.Outcome) { o.Trace[1].Hi = 0 },
		func(o *api.Outcome) { o.Trace = o.Trace[:1] },
		func(o *api.Outcome) { o.Trace = o.Trace[1:] },
		func(o *api.Outcome) { o.Trace = append(o.Trace, api.Value{}) },
		func(o *api.Outcome) { o.Trace = nil },
		func(o *api.Outcome) { o.Steps = 8 },
		func(o *api.Outcome) { o.Steps += 1 << 32 },
		func(o *api.Outcome) { o.Steps = -9 },
		func(o *api.Outcome) { *o = api.Outcome{} },
	}
	for i, change := range changes {
		for j, other := range changes {
			a, b := base(), base()
			change(&a)
			other(&b)
			a.Trace, b.Trace = roomy(a.Trace, api.Value{Lo: 1}), roomy(b.Trace, api.Value{Lo: 2})
			if sirrun.Same(a, b) != (i == j) {
				t.Errorf("Same(%v, %v) is not %v", a, b, i == j)
			}
		}
	}
	if !sirrun.Same(api.Outcome{Trace: []api.Value{}}, api.Outcome{}) || !sirrun.Same(api.Outcome{}, api.Outcome{Trace: []api.Value{}}) {
		t.Error("a nil trace and an empty one are not the same")
	}
}

// P8.5

func TestDepth(t *testing.T) {
	chain := "func 0; call f1; call f3; return; func 0; call f2; return; func 0; return; func 0; return"
	for fuel, want := range []int{1, 2, 3, 3, 3, 3, 3, 3} {
		depth, e := sirrun.Depth(program(t, chain), nil, fuel)
		if e != api.OK || depth != want {
			t.Errorf("with the fuel %d Depth returned %d, %d, not %d", fuel, depth, e, want)
		}
	}
	expect(t, []example{
		{"the entry alone", "func 0; return", nil, returned(1, 0), 1},
		{"the deepest first", chain, nil, returned(7, 0), 3},
		{"the deepest last", "func 0; call f3; call f1; return; func 0; call f2; return; func 0; return; func 0; return", nil, returned(7, 0), 3},
		{"one after the other", "func 0; " + repeat(20, "call f1; ") + "return; func 0; return", nil, returned(41, 0), 2},
		{"before an undefined value", "func 0; slot 1 1; call f1; load r0 s0; return; func 0; return", nil, stopped(api.Undef, 3), 2},
	})
	every := ""
	for next := range api.MaxFuncs - 1 {
		every += "func 0; call f" + strconv.Itoa(next+1) + "; return; "
	}
	if depth, e := sirrun.Depth(program(t, every+"func 0; return"), nil, api.MaxFuel); e != api.OK || depth != api.MaxFuncs {
		t.Errorf("a chain of all functions has the depth %d, %d", depth, e)
	}
}

// A chain of calls is as long as the fuel permits, and each activation could define api.MaxSlots slots.
func TestDeepChain(t *testing.T) {
	p := program(t, "func 0; "+repeat(api.MaxSlots, "slot 16 16; ")+"store s511 r0; arg a7 r0; call f0; return")
	o, depth, e := called(t, p, nil, api.MaxFuel)
	if e != api.OK || !equal(o, stopped(api.Fuel, api.MaxFuel)) || depth != api.MaxFuel/3+1 {
		t.Errorf("Run and Depth returned %v, %d, %d", o, depth, e)
	}
	calls := program(t, "func 0; call f0; return")
	if depth, e := sirrun.Depth(calls, nil, api.MaxFuel); e != api.OK || depth != api.MaxFuel+1 {
		t.Errorf("Depth of calls alone returned %d, %d", depth, e)
	}
	// All the way back: each activation finds its slot again.
	back := program(t, "func 0; const r0 14284; const r1 1; call f1; return; func 0; slot 8 8; store s0 r0; sub r0 r0 r1; branch r0 @4; jump @5; call f1; load r2 s0; return")
	if o := check(t, back, nil, api.MaxFuel); o.Kind != api.Returned || o.Steps < 85000 {
		t.Errorf("the long way back ended with %d after %d steps", o.Kind, o.Steps)
	}
}

// The core of both machines. What it does with right instructions the runs show.

func TestCoreOfWrongInstructions(t *testing.T) {
	far := []int{math.MinInt, -1 << 32, -1, 8, 9, 1 << 32, math.MaxInt}
	for op := -1; op <= api.Ops; op++ {
		for _, n := range far {
			for _, x := range []api.Instr{{Op: op, A: n}, {Op: op, B: n}, {Op: op, C: n}, {Op: op, A: n, B: n, C: n, Imm: 5}} {
				var c sirrun.Core
				c.Set(0, api.Value{Lo: 1, Hi: 2})
				c.Execute(x)
				c.Next(x, n)
			}
		}
	}
	var c sirrun.Core
	for _, n := range far {
		c.Set(n, api.Value{Lo: 1})
		if v := c.Register(n); v != (api.Value{}) {
			t.Errorf("register %d is %v", n, v)
		}
	}
	for n := range api.Registers {
		if v := c.Register(n); v != (api.Value{}) {
			t.Errorf("register %d became %v", n, v)
		}
		c.Set(n, api.Value{Lo: 1, Hi: uint64(n)})
	}
	for n := range api.Registers {
		if v := c.Register(n); v != (api.Value{Lo: 1, Hi: uint64(n)}) {
			t.Errorf("register %d is %v", n, v)
		}
	}
}

// The examples of the document

func TestExamples(t *testing.T) {
	expect(t, []example{
		{"chapter 8", "func 0; const r0 5; return", nil, returned(2, 5), 1},
		{"example 3", "func 0; slot 8 8; const r1 7; store s0 r1; load r0 s0; return", nil, returned(4, 7), 1},
	})
}

// chance is a generator without a pattern that programs have.
type chance uint64

// below returns a number from 0 to n - 1.
func (c *chance) below(n int) int {
	*c = *c*6364136223846793005 + 1442695040888963407
	return int(uint64(*c) >> 33 % uint64(n))
}

func (c *chance) number() uint64 {
	switch c.below(4) {
	case 0:
		return uint64(c.below(1<<31)) * uint64(c.below(1<<31)) * 8
	case 1:
		return -uint64(c.below(3))
	}
	return uint64(c.below(4))
}

func (c *chance) instr(p api.Program, f api.Func, length int) api.Instr {
	x := api.Instr{Op: c.below(api.Ops), A: c.below(8), B: c.below(8)}
	switch {
	case x.Op == api.Const:
		x.B, x.Imm = 0, c.number()
	case x.Op >= api.Add && x.Op <= api.Pair:
		x.C = c.below(8)
	case x.Op == api.In || x.Op == api.Out:
		x.B = 0
	case x.Op == api.Load:
		x.B = c.below(len(f.Slots))
	case x.Op == api.Store:
		x.A = c.below(len(f.Slots))
	case x.Op == api.Move:
		x.A, x.B = c.below(len(f.Slots)), c.below(len(f.Slots))
		if f.Slots[x.A].Size != f.Slots[x.B].Size {
			x.B = x.A
		}
	case x.Op == api.Param && f.Params == 0:
		return api.Instr{Op: api.Call, A: c.below(len(p.Funcs))}
	case x.Op == api.Param:
		x.B = c.below(f.Params)
	case x.Op == api.Jump:
		x.A, x.B = c.below(length), 0
	case x.Op == api.Branch:
		x.B = c.below(length)
	case x.Op == api.Call:
		x.A, x.B = c.below(len(p.Funcs)), 0
	case x.Op == api.Return:
		x.A, x.B = 0, 0
	case x.Op == api.Trap:
		x.A, x.B, x.Imm = 0, 0, c.number()
	}
	return x
}

// dull reports whether an instruction often ends a run early.
func dull(x api.Instr) bool {
	return x.Op == api.Trap || x.Op == api.Return || x.Op == api.Jump || x.Op == api.Div || x.Op == api.Load || x.Op == api.Move
}

func (c *chance) code(p api.Program, f api.Func) []api.Instr {
	var l []api.Instr
	length := 4 + c.below(30)
	for s := range f.Slots {
		if c.below(8) > 0 {
			l = append(l, api.Instr{Op: api.Store, A: s, B: c.below(8)})
		}
	}
	for a := range 8 {
		if c.below(8) > 0 {
			l = append(l, api.Instr{Op: api.Arg, A: a, B: c.below(8)})
		}
	}
	length += len(l)
	for len(l) < length-1 {
		x := c.instr(p, f, length)
		if dull(x) && c.below(4) > 0 {
			continue
		}
		l = append(l, x)
	}
	last := []api.Instr{{Op: api.Return}, {Op: api.Return}, {Op: api.Trap, Imm: c.number()}, {Op: api.Jump, A: c.below(length)}}
	return append(l, last[c.below(4)])
}

// program returns a right program.
func (c *chance) program() api.Program {
	p := api.Program{Funcs: make([]api.Func, 1+c.below(5))}
	for i := range p.Funcs {
		f := &p.Funcs[i]
		if i > 0 {
			f.Params = c.below(9)
		}
		for range 1 + c.below(5) {
			f.Slots = append(f.Slots, api.Slot{Size: 1 << c.below(5), Align: 1 << c.below(25)})
		}
		f.Code = c.code(p, *f)
	}
	return p
}

func (c *chance) input() []uint64 {
	l := make([]uint64, c.below(6))
	for i := range l {
		l[i] = c.number()
	}
	return l
}

func TestRandomPrograms(t *testing.T) {
	c := chance(8)
	kinds := map[int]int{}
	for range 4000 {
		p := c.program()
		if e := sir.Check(p); e != api.OK {
			t.Fatalf("a random program has the error %d: %v", e, p)
		}
		input := c.input()
		o := check(t, p, input, 2000)
		kinds[o.Kind]++
		check(t, p, input, c.below(o.Steps+2))
	}
	for _, kind := range []int{api.Returned, api.Trapped, api.Divided, api.Undef, api.Fuel} {
		if kinds[kind] < 100 {
			t.Errorf("only %d random programs end with the kind %d: %v", kinds[kind], kind, kinds)
		}
	}
}

// More fuel changes no outcome but that of Fuel, and the trace of a run with less fuel is a beginning of that with more.
func TestConsequences(t *testing.T) {
	c := chance(80)
	for range 300 {
		p, input := c.program(), c.input()
		full, _ := sirrun.Run(p, input, 200)
		for fuel := range 200 {
			o, _ := sirrun.Run(p, input, fuel)
			if o.Kind != api.Fuel && !sirrun.Same(o, full) {
				t.Fatalf("with the fuels %d and 200 Run returned %v and %v: %v", fuel, o, full, p)
			}
			if len(o.Trace) > len(full.Trace) || !slices.Equal(o.Trace, full.Trace[:len(o.Trace)]) {
				t.Fatalf("with the fuels %d and 200 the traces are %v and %v: %v", fuel, o.Trace, full.Trace, p)
			}
		}
	}
}

// R2

func TestResultsAreNew(t *testing.T) {
	p := program(t, "func 0; in r0; out r0; in r0; out r0; return")
	a, _ := sirrun.Run(p, []uint64{1, 2}, 10)
	b, _ := sirrun.Run(p, []uint64{1, 2}, 10)
	for i := range a.Trace[:cap(a.Trace)] {
		a.Trace[:cap(a.Trace)][i] = api.Value{Lo: 9}
	}
	again, _ := sirrun.Run(p, []uint64{1, 2}, 10)
	for _, o := range []api.Outcome{b, again} {
		if !equal(o, returned(5, 2, 1, 2)) {
			t.Errorf("after the trace of another run was changed, an outcome is %v", o)
		}
	}
}

func TestManyAtOnce(t *testing.T) {
	c := chance(88)
	for range 20 {
		p, input := c.program(), c.input()
		want, wantDepth := modelled(p, input, 500)
		var wait sync.WaitGroup
		for range 8 {
			wait.Go(func() {
				o, _ := sirrun.Run(p, input, 500)
				depth, _ := sirrun.Depth(p, input, 500)
				if !equal(o, want) || depth != wantDepth {
					t.Errorf("beside other runs, Run and Depth returned %v, %d, not %v, %d", o, depth, want, wantDepth)
				}
			})
		}
		wait.Wait()
	}
}
