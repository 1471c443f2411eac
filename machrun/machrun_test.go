package machrun_test

import (
	"math"
	"slices"
	"strconv"
	"strings"
	"sync"
	"testing"

	"spillframe/api"
	"spillframe/mach"
	"spillframe/machrun"
	"spillframe/sirrun"
)

var names = strings.Fields("const copy add sub mul div and or xor less equal pair high in out load store move arg param jump branch call return trap")

// program reads a right target, of which semicolons end the lines: "frame" with its parameters and its size, or an instruction with its operands in the order of chapter 10. The r, f and @ before an operand are for the reader only.
func program(t *testing.T, align int, text string) api.Target {
	t.Helper()
	g := api.Target{Align: align}
	for _, line := range strings.Split(text, ";") {
		words := strings.Fields(line)
		var n [3]uint64
		for i, w := range words[1:] {
			v, err := strconv.ParseUint(strings.TrimLeft(w, "rf@"), 10, 64)
			if err != nil {
				t.Fatalf("the line %q is wrong", line)
			}
			n[i] = v
		}
		a, b, c := int(n[0]), int(n[1]), int(n[2])
		x := api.Instr{Op: slices.Index(names, words[0]), A: a, B: b, C: c}
		switch words[0] {
		case "frame":
			g.Frames = append(g.Frames, api.Frame{Params: a, Size: b})
			continue
		case "const":
			x.B, x.Imm = 0, n[1]
		case "trap":
			x.A, x.Imm = 0, n[0]
		}
		last := &g.Frames[len(g.Frames)-1]
		last.Code = append(last.Code, x)
	}
	if e := mach.Check(g); e != api.OK {
		t.Fatalf("%q has the error %d", text, e)
	}
	return g
}

func repeat(n int, text string) string {
	return strings.Repeat(text, n)
}

// los are values whose high words are 0.
func los(l ...uint64) []api.Value {
	var out []api.Value
	for _, n := range l {
		out = append(out, api.Value{Lo: n})
	}
	return out
}

func equal(a, b api.Outcome) bool {
	if len(a.Trace) != len(b.Trace) {
		return false
	}
	for i, v := range a.Trace {
		if v.Lo != b.Trace[i].Lo || v.Hi != b.Trace[i].Hi {
			return false
		}
	}
	return a.Kind == b.Kind && a.Code == b.Code && a.Result.Lo == b.Result.Lo && a.Result.Hi == b.Result.Hi && a.Steps == b.Steps
}

// arguments are a target and an input with spare capacity in which the lists would go on.
type arguments struct {
	g     api.Target
	input []uint64
}

func roomy[T any](l []T, spare ...T) []T {
	return append(slices.Clone(l), spare...)[:len(l)]
}

func newArguments(g api.Target, input []uint64) arguments {
	frames := roomy(g.Frames, api.Frame{Params: -1}, api.Frame{Code: []api.Instr{{Op: api.Return}}})
	for i, f := range frames {
		frames[i].Code = roomy(f.Code, api.Instr{Op: api.Return}, api.Instr{Op: 99, A: 7})
	}
	return arguments{api.Target{Align: g.Align, Frames: frames}, roomy(input, 77, 78)}
}

// whole returns a copy of all memory of the arguments.
func (a arguments) whole() arguments {
	frames := slices.Clone(a.g.Frames[:cap(a.g.Frames)])
	for i, f := range frames {
		frames[i].Code = slices.Clone(f.Code[:cap(f.Code)])
	}
	return arguments{api.Target{Align: a.g.Align, Frames: frames}, slices.Clone(a.input[:cap(a.input)])}
}

// called returns what Run and Deepest return for a copy of the arguments that has spare capacity, and checks that they leave all of its memory as it is.
func called(t *testing.T, g api.Target, input []uint64, fuel, size int) (api.Outcome, int, api.Errno) {
	t.Helper()
	a := newArguments(g, input)
	before := a.whole()
	o, e := machrun.Run(a.g, a.input, fuel, size)
	deepest, deepestE := machrun.Deepest(a.g, a.input, fuel, size)
	if e != deepestE {
		t.Fatalf("Run returned the error %d and Deepest %d: %v", e, deepestE, g)
	}
	after := a.whole()
	if !mach.Same(after.g, before.g) || !slices.Equal(after.input, before.input) {
		t.Fatalf("Run or Deepest changed an argument: %v, %v", g, input)
	}
	return o, deepest, e
}

// check compares Run and Deepest with the model.
func check(t *testing.T, g api.Target, input []uint64, fuel, size int) api.Outcome {
	t.Helper()
	o, deepest, e := called(t, g, input, fuel, size)
	want, wantDeepest := modelled(g, input, fuel, size)
	if e != api.OK || !equal(o, want) || deepest != wantDeepest {
		t.Fatalf("with the fuel %d, %d bytes and the input %v, Run and Deepest returned %v, %d, %d, not %v, %d: %v", fuel, size, input, o, deepest, e, want, wantDeepest, g)
	}
	return o
}

// checkAround compares Run and Deepest with the model for every fuel up to beyond the end, but at most 300, and on other stacks.
func checkAround(t *testing.T, g api.Target, input []uint64, size int) {
	t.Helper()
	steps := check(t, g, input, 300, size).Steps
	for fuel := range steps + 3 {
		check(t, g, input, fuel, size)
	}
	for other := 0; other < 300; other += 5 {
		check(t, g, input, 300, other)
	}
}

type example struct {
	name, text string
	input      []uint64
	size       int
	want       api.Outcome
	deepest    int
}

// expect checks the outcome and the depth of each example, whose alignment is 16, and compares others like it with the model.
func expect(t *testing.T, examples []example) {
	t.Helper()
	for _, x := range examples {
		g := program(t, 16, x.text)
		o, deepest, e := called(t, g, x.input, api.MaxFuel, x.size)
		if e != api.OK || !equal(o, x.want) {
			t.Errorf("%s: Run returned %v, %d, not %v", x.name, o, e, x.want)
		}
		if deepest != x.deepest {
			t.Errorf("%s: Deepest returned %d, not %d", x.name, deepest, x.deepest)
		}
		checkAround(t, g, x.input, x.size)
	}
}

func returned(steps int, result uint64, trace ...uint64) api.Outcome {
	return api.Outcome{Steps: steps, Result: api.Value{Lo: result}, Trace: los(trace...)}
}

func stopped(kind, steps int, trace ...uint64) api.Outcome {
	return api.Outcome{Kind: kind, Steps: steps, Trace: los(trace...)}
}

// P12.1

func TestBeginning(t *testing.T) {
	expect(t, []example{
		{"registers are 0", "frame 0 0; out r0; out r1; out r2; out r3; out r4; out r5; out r6; out r7; return", nil, 0, returned(9, 0, 0, 0, 0, 0, 0, 0, 0, 0), 0},
		{"frame 0, instruction 0", "frame 0 16; const r0 1; out r0; const r0 2; return; frame 0 32; const r0 3; return", nil, 64, returned(4, 2, 1), 16},
		{"a frame that fits", "frame 0 32; const r0 1; return", nil, 32, returned(2, 1), 32},
		{"a frame that does not fit", "frame 0 32; const r0 1; return", nil, 31, stopped(api.Overflow, 0), 0},
		{"no stack", "frame 0 16; return", nil, 0, stopped(api.Overflow, 0), 0},
		{"no bytes at all", "frame 0 0; const r0 1; return", nil, 0, returned(2, 1), 0},
	})
	for off := range 32 {
		for _, size := range []int{1, 2, 4, 8, 16} {
			if off+size <= 32 {
				load := "load r0 " + strconv.Itoa(off) + " " + strconv.Itoa(size)
				expect(t, []example{{"no byte is used", "frame 0 32; " + load + "; return", nil, 64, stopped(api.Undef, 1), 32}})
			}
		}
	}
}

// The SP of the new stack is the size of the stack rounded down to a multiple of the alignment.
func TestAlignments(t *testing.T) {
	for align := 16; align <= api.MaxStack; align *= 2 {
		for _, units := range []int{1, 2, 3} {
			if units*align > api.MaxStack {
				continue
			}
			bytes := units * align
			g := program(t, align, "frame 0 "+strconv.Itoa(bytes)+"; const r0 1; return")
			for _, size := range []int{bytes, bytes + 1, bytes + 15, bytes + align - 1, bytes + align} {
				if size > api.MaxStack {
					continue
				}
				if o, deepest, e := called(t, g, nil, 10, size); e != api.OK || !equal(o, returned(2, 1)) || deepest != bytes {
					t.Errorf("a frame of %d bytes with the alignment %d on %d bytes: %v, %d, %d", bytes, align, size, o, deepest, e)
				}
			}
			for _, size := range []int{0, 1, align - 1, bytes - align, bytes - 1} {
				if o, deepest, e := called(t, g, nil, 10, size); e != api.OK || !equal(o, stopped(api.Overflow, 0)) || deepest != 0 {
					t.Errorf("a frame of %d bytes with the alignment %d on %d bytes: %v, %d, %d", bytes, align, size, o, deepest, e)
				}
			}
		}
	}
	great := program(t, api.MaxAlign, "frame 0 0; return")
	if o, deepest, e := called(t, great, nil, 10, api.MaxStack); e != api.OK || !equal(o, returned(1, 0)) || deepest != 0 {
		t.Errorf("the greatest alignment: %v, %d, %d", o, deepest, e)
	}
	greatest := program(t, 16, "frame 0 2147483504; return")
	if o, deepest, e := called(t, greatest, nil, 10, api.MaxStack); e != api.OK || !equal(o, stopped(api.Overflow, 0)) || deepest != 0 {
		t.Errorf("the greatest frame: %v, %d, %d", o, deepest, e)
	}
}

// P12.2

func TestFuel(t *testing.T) {
	g := program(t, 16, "frame 0 16; const r0 5; out r0; store 0 r0 8; return")
	for fuel, want := range []api.Outcome{stopped(api.Fuel, 0), stopped(api.Fuel, 1), stopped(api.Fuel, 2, 5), stopped(api.Fuel, 3, 5), returned(4, 5, 5), returned(4, 5, 5)} {
		o, e := machrun.Run(g, nil, fuel, 16)
		if e != api.OK || !equal(o, want) {
			t.Errorf("with the fuel %d Run returned %v, %d, not %v", fuel, o, e, want)
		}
	}
	loop := program(t, 16, "frame 0 16; jump @0")
	for _, fuel := range []int{1, 2, 99999, 100000} {
		o, deepest, e := called(t, loop, nil, fuel, 40)
		if e != api.OK || !equal(o, stopped(api.Fuel, fuel)) || deepest != 16 {
			t.Errorf("a loop with the fuel %d: %v, %d, %d", fuel, o, deepest, e)
		}
	}
	// The last step ends the run, so that it does not end for lack of fuel.
	exact := program(t, 16, "frame 0 0; const r0 33332; const r1 1; sub r0 r0 r1; out r0; branch r0 @2; copy r0 r1; return")
	o, e := machrun.Run(exact, nil, api.MaxFuel, 0)
	if e != api.OK || o.Kind != api.Returned || o.Steps != api.MaxFuel || o.Result != (api.Value{Lo: 1}) || len(o.Trace) != 33332 {
		t.Errorf("a run of api.MaxFuel steps: %d, %d steps, %v, %d", o.Kind, o.Steps, o.Result, e)
	}
	check(t, exact, nil, api.MaxFuel-1, 0)
}

const wide = "in r1; in r2; pair r3 r1 r2; in r1; in r2; pair r4 r1 r2; "

// The registers 3 and 4 are {1, 2} and {3, 1}, as far as the operation does not replace them.
func TestComputation(t *testing.T) {
	max64 := uint64(math.MaxUint64)
	for _, x := range []struct {
		instr, out string
		want       api.Value
	}{
		{"const r3 18446744073709551615", "r3", api.Value{Lo: max64}},
		{"copy r5 r3", "r5", api.Value{Lo: 1, Hi: 2}},
		{"add r5 r3 r4", "r5", api.Value{Lo: 4, Hi: 3}},
		{"sub r5 r3 r4", "r5", api.Value{Lo: max64 - 1}},
		{"mul r5 r3 r4", "r5", api.Value{Lo: 3, Hi: 7}},
		{"div r5 r3 r4", "r5", api.Value{Lo: 1}},
		{"and r5 r3 r4", "r5", api.Value{Lo: 1}},
		{"or r5 r3 r4", "r5", api.Value{Lo: 3, Hi: 3}},
		{"xor r5 r3 r4", "r5", api.Value{Lo: 2, Hi: 3}},
		{"less r5 r3 r4", "r5", api.Value{}},
		{"less r5 r4 r3", "r5", api.Value{Lo: 1}},
		{"equal r5 r3 r4", "r5", api.Value{}},
		{"equal r5 r3 r3", "r5", api.Value{Lo: 1}},
		{"pair r3 r4 r3", "r3", api.Value{Lo: 3, Hi: 1}},
		{"high r5 r3", "r5", api.Value{Lo: 2}},
		{"in r3", "r3", api.Value{Lo: 8}},
		{"out r3", "r3", api.Value{Lo: 1, Hi: 2}},
	} {
		rest := "out r0; out r1; out r2; out r3; out r4; out r5; out r6; out r7; copy r0 " + x.out + "; return"
		g := program(t, 16, "frame 0 0; "+wide+"in r0; "+x.instr+"; "+rest)
		input := []uint64{1, 2, 3, 1, 9, 8}
		o, e := machrun.Run(g, input, api.MaxFuel, 0)
		if e != api.OK || o.Kind != api.Returned || o.Result != x.want {
			t.Errorf("%s: register %s is %v, not %v; %d, %d", x.instr, x.out, o.Result, x.want, o.Kind, e)
		}
		checkAround(t, g, input, 0)
	}
}

func TestRegisters(t *testing.T) {
	reads := "in r0; out r0; in r0; out r0; in r0; out r0; "
	expect(t, []example{
		{"divided by zero", "frame 0 0; const r1 5; out r1; div r0 r1 r2; return", nil, 0, stopped(api.Divided, 3, 5), 0},
		{"divided by a low word 0", "frame 0 0; const r1 1; pair r2 r0 r1; div r0 r2 r2; return", nil, 0, returned(4, 1), 0},
		{"divided in a called frame", "frame 0 16; call f1; return; frame 0 32; div r0 r0 r0; return", nil, 64, stopped(api.Divided, 2), 48},
		{"input in order", "frame 0 0; " + reads + "return", []uint64{7, 8, math.MaxUint64, 9}, 0, returned(7, math.MaxUint64, 7, 8, math.MaxUint64), 0},
		{"no input left", "frame 0 0; " + reads + "return", []uint64{7}, 0, returned(7, 0, 7, 0, 0), 0},
		{"registers and input are shared", "frame 0 16; " + reads + "call f1; out r0; return; frame 0 16; out r0; in r0; return", []uint64{1, 2, 3, 4}, 32, returned(12, 4, 1, 2, 3, 3, 4), 32},
	})
}

const (
	lo = 0x8877665544332211
	hi = 0xFFEEDDCCBBAA9988
)

// sized has the lowest bytes of the value {lo, hi}.
func sized() map[int]api.Value {
	return map[int]api.Value{1: {Lo: 0x11}, 2: {Lo: 0x2211}, 4: {Lo: 0x44332211}, 8: {Lo: lo}, 16: {Lo: lo, Hi: hi}}
}

func TestMemory(t *testing.T) {
	for size, want := range sized() {
		for off := 0; off+size <= 48; off++ {
			at, from := strconv.Itoa(off)+" ", strconv.Itoa((off+29)%(49-size))+" "
			bytes := strconv.Itoa(size) + "; "
			for _, x := range []string{
				"store " + at + "r1 " + bytes + "load r0 " + at + bytes,
				"store " + from + "r1 " + bytes + "move " + at + from + bytes + "load r0 " + at + bytes,
				"store " + at + "r2 " + bytes + "store " + at + "r1 " + bytes + "move " + at + at + bytes + "load r0 " + at + bytes,
			} {
				g := program(t, 16, "frame 0 48; in r1; in r2; pair r1 r1 r2; "+x+"out r1; return")
				o, e := machrun.Run(g, []uint64{lo, hi}, 100, 64)
				if e != api.OK || o.Kind != api.Returned || o.Result != want || !slices.Equal(o.Trace, []api.Value{{Lo: lo, Hi: hi}}) {
					t.Errorf("%s: Run returned %v, %d, not the result %v", x, o, e, want)
				}
				check(t, g, []uint64{lo, hi}, 100, 64)
			}
		}
	}
}

func TestBytes(t *testing.T) {
	input := []uint64{lo, hi, 0xA0}
	sixteen := "frame 0 32; in r1; in r2; pair r1 r1 r2; store 0 r1 16; "
	expect(t, []example{
		{"the least significant byte first", sixteen + "load r0 0 1; out r0; load r0 7 1; out r0; load r0 8 2; out r0; load r0 12 4; return", input, 32, returned(12, 0xFFEEDDCC, 0x11, 0x88, 0x9988), 32},
		{"across the words", sixteen + "load r0 6 4; return", input, 32, returned(6, 0x99888877), 32},
		{"a store changes its bytes only", sixteen + "in r3; store 6 r3 2; load r0 0 8; out r0; load r0 8 8; return", input, 32, returned(10, hi, 0x00A0665544332211), 32},
		{"stores side by side are read as one", "frame 0 16; const r1 1; store 3 r1 1; const r1 770; store 4 r1 2; store 6 r1 1; load r0 3 4; return", nil, 16, returned(7, 0x02030201), 16},
		{"a move forwards over its own bytes", sixteen + "move 3 0 8; load r0 3 8; out r0; load r0 0 4; return", input, 32, returned(9, 0x11332211, lo), 32},
		{"a move backwards over its own bytes", sixteen + "move 0 3 8; load r0 0 8; out r0; load r0 8 4; return", input, 32, returned(9, 0xBBAA9988, 0xAA99888877665544), 32},
		{"a move takes as many bytes as it says", sixteen + "move 16 0 2; load r0 16 2; out r0; load r0 16 4; return", input, 32, stopped(api.Undef, 8, 0x2211), 32},
	})
}

func TestUndefined(t *testing.T) {
	expect(t, []example{
		{"load", "frame 0 16; const r0 5; out r0; load r1 0 8; return", nil, 16, stopped(api.Undef, 3, 5), 16},
		{"move", "frame 0 16; const r0 5; store 0 r0 8; move 0 8 8; return", nil, 16, stopped(api.Undef, 3), 16},
		{"move to itself", "frame 0 16; move 0 0 8; return", nil, 16, stopped(api.Undef, 1), 16},
		{"zero is used", "frame 0 16; store 0 r0 16; load r1 0 16; return", nil, 16, returned(3, 0), 16},
		{"before a store", "frame 0 32; store 16 r0 16; load r1 15 1; return", nil, 32, stopped(api.Undef, 2), 32},
		{"after a store", "frame 0 32; store 0 r0 16; load r1 16 1; return", nil, 32, stopped(api.Undef, 2), 32},
	})
	// One byte after the other is missing.
	for size := range sized() {
		for missing := range size {
			stores := ""
			for n := range size {
				if n != missing {
					stores += "store " + strconv.Itoa(5+n) + " r0 1; "
				}
			}
			bytes := strconv.Itoa(size)
			for _, x := range []string{"load r1 5 " + bytes, "move 32 5 " + bytes, "move 6 5 " + bytes} {
				expect(t, []example{{"a byte is missing", "frame 0 48; " + stores + x + "; return", nil, 48, stopped(api.Undef, size), 48}})
			}
		}
	}
}

func TestFrames(t *testing.T) {
	expect(t, []example{
		{"the bytes of the caller stay", "frame 0 16; const r1 5; store 0 r1 8; call f1; load r0 0 8; return; frame 0 16; const r1 6; store 0 r1 8; load r2 0 8; out r2; return", nil, 32, returned(10, 5, 6), 32},
		{"the bytes of the caller are not those of the called frame", "frame 0 16; const r1 5; store 0 r1 8; call f1; return; frame 0 16; load r0 0 8; return", nil, 32, stopped(api.Undef, 4), 32},
		{"the bytes of the called frame are not those of the caller", "frame 0 16; call f1; load r0 0 8; return; frame 0 16; const r1 5; store 0 r1 8; return", nil, 32, stopped(api.Undef, 5), 32},
		{"no byte is used in a frame that is entered again", "frame 0 16; const r1 1; call f1; const r1 0; call f1; return; frame 0 16; branch r1 @3; load r0 0 8; return; store 0 r1 8; load r0 0 8; return", nil, 32, stopped(api.Undef, 10), 32},
		{"no byte is used where another frame was", "frame 0 16; call f1; call f2; return; frame 0 48; store 0 r1 16; store 16 r1 16; store 32 r1 16; return; frame 0 32; load r0 0 1; return", nil, 64, stopped(api.Undef, 7), 64},
		{"no byte is used at the end of a frame where another was", "frame 0 16; call f1; call f2; return; frame 0 48; store 0 r1 16; store 16 r1 16; store 32 r1 16; return; frame 0 32; load r0 31 1; return", nil, 64, stopped(api.Undef, 7), 64},
		{"each activation has a frame of its own", "frame 0 16; const r1 3; const r2 1; call f1; return; frame 0 16; store 8 r1 8; sub r1 r1 r2; branch r1 @4; jump @5; call f1; load r0 8 8; out r0; return", nil, 64, returned(25, 3, 1, 2, 3), 64},
		{"the entry can be called", "frame 0 16; in r1; store 0 r1 8; branch r1 @4; return; call f0; load r0 0 8; out r0; return", []uint64{9, 8}, 48, returned(18, 9, 8, 9), 48},
		{"a frame begins at instruction 0 each time", "frame 0 0; call f1; call f1; return; frame 0 16; const r0 1; out r0; const r0 2; return", nil, 16, returned(11, 2, 1, 1), 16},
		{"a frame without bytes", "frame 0 16; store 0 r0 8; call f1; load r1 0 8; return; frame 0 0; call f2; return; frame 0 16; store 0 r0 8; return", nil, 32, returned(8, 0), 32},
	})
}

func TestParameters(t *testing.T) {
	sets, gets := "", ""
	for n := range 8 {
		sets += "const r1 1" + strconv.Itoa(n) + "; store " + strconv.Itoa(16*n) + " r1 16; "
		gets += "load r2 " + strconv.Itoa(32+16*n) + " 16; out r2; "
	}
	expect(t, []example{
		{"all of them", "frame 0 128; " + sets + "call f1; return; frame 8 32; " + gets + "return", nil, 160, returned(35, 0, 10, 11, 12, 13, 14, 15, 16, 17), 160},
		{"moved into the frame", "frame 0 32; const r1 5; store 16 r1 16; call f1; return; frame 2 16; move 0 32 16; load r0 0 16; return", nil, 48, returned(7, 5), 48},
		{"across its own bytes and the parameters", "frame 0 16; const r1 772; store 0 r1 2; call f1; return; frame 1 16; const r1 513; store 14 r1 2; load r0 14 4; return", nil, 32, returned(8, 0x03040201), 32},
		{"that are not used", "frame 0 16; store 0 r0 8; call f1; return; frame 1 16; load r0 16 8; load r0 24 1; return", nil, 32, stopped(api.Undef, 4), 32},
		{"of a frame without bytes", "frame 0 16; const r1 5; store 0 r1 16; call f1; return; frame 1 0; load r0 0 16; return", nil, 16, returned(6, 5), 16},
		{"those of the caller, not its own", "frame 0 16; const r1 5; store 0 r1 16; call f1; return; frame 1 16; const r1 6; store 0 r1 16; load r0 16 16; return", nil, 32, returned(8, 5), 32},
		{"not those of the caller of the caller", "frame 0 16; store 0 r0 16; call f1; return; frame 0 16; call f2; return; frame 1 16; load r0 16 16; return", nil, 48, stopped(api.Undef, 4), 48},
		{"handed on", "frame 0 16; const r1 5; store 0 r1 16; call f1; return; frame 1 16; move 0 16 16; call f2; return; frame 1 16; load r0 16 16; return", nil, 48, returned(9, 5), 48},
		{"at the first bytes of the frame of the caller", "frame 0 48; const r1 5; store 0 r1 16; const r1 6; store 32 r1 16; call f1; return; frame 1 16; load r0 16 16; return", nil, 64, returned(8, 5), 64},
	})
}

func TestControl(t *testing.T) {
	expect(t, []example{
		{"jump", "frame 0 0; jump @3; const r0 1; return; const r0 2; jump @1", nil, 0, returned(5, 1), 0},
		{"branch", "frame 0 0; const r1 1; branch r1 @3; return; const r0 2; return", nil, 0, returned(4, 2), 0},
		{"no branch", "frame 0 0; branch r1 @3; const r0 1; return; const r0 2; return", nil, 0, returned(3, 1), 0},
		{"a branch looks at the low word alone", "frame 0 0; const r1 1; pair r1 r0 r1; branch r1 @4; return; trap 9", nil, 0, returned(4, 0), 0},
		{"a branch looks at the whole low word", "frame 0 0; const r1 9223372036854775808; branch r1 @3; return; const r0 3; return", nil, 0, returned(4, 3), 0},
		{"call and return", "frame 0 0; call f2; out r0; call f1; out r0; return; frame 0 16; const r0 1; return; frame 0 32; const r0 2; call f1; out r0; const r0 3; return", nil, 48, returned(14, 1, 1, 3, 1), 48},
		{"result", "frame 0 0; in r1; in r2; pair r0 r1 r2; return", []uint64{5, 6}, 0, api.Outcome{Steps: 4, Result: api.Value{Lo: 5, Hi: 6}}, 0},
		{"trap", "frame 0 0; const r0 5; out r0; trap 18446744073709551615", nil, 0, api.Outcome{Kind: api.Trapped, Code: math.MaxUint64, Trace: los(5), Steps: 3}, 0},
		{"trap in a called frame", "frame 0 16; call f1; return; frame 0 16; const r0 7; trap 3; return", nil, 32, api.Outcome{Kind: api.Trapped, Code: 3, Steps: 3}, 32},
	})
}

func TestOverflow(t *testing.T) {
	pair := "frame 0 16; const r0 5; out r0; call f1; const r0 6; return; frame 0 32; return"
	deep := "frame 0 16; const r0 5; call f0; return"
	expect(t, []example{
		{"a call that fits", pair, nil, 48, returned(6, 6, 5), 48},
		{"a call that does not fit", pair, nil, 47, stopped(api.Overflow, 3, 5), 16},
		{"a call that fits after the bytes are rounded down", pair, nil, 63, returned(6, 6, 5), 48},
		{"the frame of the caller only", pair, nil, 16, stopped(api.Overflow, 3, 5), 16},
		{"not the frame of the caller", pair, nil, 15, stopped(api.Overflow, 0), 0},
		{"calls without end", deep, nil, 100, stopped(api.Overflow, 12), 96},
		{"return gives the bytes back", "frame 0 16; " + repeat(40, "call f1; ") + "return; frame 0 32; store 0 r0 16; return", nil, 48, returned(121, 0), 48},
		{"the frame of the called function counts, not that of the caller", "frame 0 16; call f1; return; frame 0 64; call f2; return; frame 0 16; return", nil, 96, returned(5, 0), 96},
		{"return of the right size", "frame 0 16; call f1; call f2; return; frame 0 64; call f2; return; frame 0 80; return", nil, 160, returned(7, 0), 160},
		{"deeper after a return", "frame 0 16; call f1; call f2; return; frame 0 32; call f2; return; frame 0 64; return", nil, 111, stopped(api.Overflow, 2), 48},
	})
}

// P12.3

// wrong has targets with the error of mach.Check.
func wrong() map[api.Errno]api.Target {
	ret := api.Instr{Op: api.Return}
	of := func(l ...api.Instr) api.Target {
		return api.Target{Align: 16, Frames: []api.Frame{{Size: 16, Code: l}}}
	}
	return map[api.Errno]api.Target{
		api.ErrRange:  of(api.Instr{Op: api.Load, B: 9, C: 8}, ret),
		api.ErrFormat: of(api.Instr{Op: api.Return, C: 1}),
		api.ErrSize:   of(api.Instr{Op: api.Store, A: 1}, ret),
		api.ErrTarget: of(api.Instr{Op: api.Jump, A: 1}),
		api.ErrArity:  {Align: 16, Frames: []api.Frame{{Params: 1, Code: []api.Instr{ret}}}},
		api.ErrLimit:  of(slices.Repeat([]api.Instr{ret}, api.MaxCode+1)...),
	}
}

func expectError(t *testing.T, name string, g api.Target, fuel, size int, want api.Errno) {
	t.Helper()
	o, deepest, e := called(t, g, []uint64{1, 2}, fuel, size)
	if e != want || !equal(o, api.Outcome{}) || deepest != 0 {
		t.Errorf("%s with the fuel %d and %d bytes: %v, %d, %d, not the error %d", name, fuel, size, o, deepest, e, want)
	}
}

func TestErrors(t *testing.T) {
	good := program(t, 16, "frame 0 16; const r0 5; out r0; call f1; return; frame 0 32; return")
	wrongFuel := []int{math.MinInt, -1 << 32, -100000, -1, api.MaxFuel + 1, 1 << 32, 1<<32 + 5, math.MaxInt}
	wrongSize := []int{math.MinInt, -1 << 32, -1<<32 + 48, -1, api.MaxStack + 1, api.MaxBound, 1 << 32, 1<<32 + 48, math.MaxInt}
	fuels, sizes := append(wrongFuel, 0, 1, 5, api.MaxFuel), append(wrongSize, 0, 15, 48, api.MaxStack)
	for want, g := range wrong() {
		for _, fuel := range fuels {
			for _, size := range sizes {
				expectError(t, "a wrong target", g, fuel, size, want)
			}
		}
	}
	for _, fuel := range fuels {
		for _, size := range sizes {
			if slices.Contains(wrongFuel, fuel) || slices.Contains(wrongSize, size) {
				expectError(t, "a right target", good, fuel, size, api.ErrRange)
			} else {
				check(t, good, nil, fuel, size)
			}
		}
	}
	for _, g := range []api.Target{{}, {Align: 16}, {Align: 16, Frames: []api.Frame{}}} {
		expectError(t, "a target without frames", g, 10, 10, api.ErrRange)
	}
	// What is wrong need not be reached.
	hidden := program(t, 16, "frame 0 16; const r0 5; return; frame 0 16; return")
	hidden.Frames[1].Code = append(hidden.Frames[1].Code, api.Instr{Op: api.Arg}, api.Instr{Op: api.Return})
	expectError(t, "a target with an error that is not reached", hidden, 10, 64, api.ErrRange)
}

// Without fuel for the first step the first frame is not pushed.
func TestFuelComesFirst(t *testing.T) {
	g := program(t, 16, "frame 0 32; return")
	for _, size := range []int{0, 16, 31, 32, 64, api.MaxStack} {
		if o, deepest, e := called(t, g, nil, 0, size); e != api.OK || !equal(o, stopped(api.Fuel, 0)) || deepest != 0 {
			t.Errorf("without fuel on %d bytes: %v, %d, %d", size, o, deepest, e)
		}
	}
	for fuel, want := range map[int]api.Outcome{1: stopped(api.Overflow, 0), api.MaxFuel: stopped(api.Overflow, 0)} {
		if o, deepest, e := called(t, g, nil, fuel, 31); e != api.OK || !equal(o, want) || deepest != 0 {
			t.Errorf("with the fuel %d: %v, %d, %d", fuel, o, deepest, e)
		}
	}
	// A call that does not fit is a step, so that it needs fuel.
	call := program(t, 16, "frame 0 16; call f1; return; frame 0 32; return")
	for fuel, want := range []api.Outcome{stopped(api.Fuel, 0), stopped(api.Overflow, 1), stopped(api.Overflow, 1)} {
		if o, e := machrun.Run(call, nil, fuel, 32); e != api.OK || !equal(o, want) {
			t.Errorf("a call with the fuel %d: %v, %d", fuel, o, e)
		}
	}
}

// P12.4

func TestDeepest(t *testing.T) {
	chain := program(t, 16, "frame 0 16; call f1; call f3; return; frame 0 32; call f2; return; frame 0 64; return; frame 0 0; return")
	for fuel, want := range []int{0, 48, 112, 112, 112, 112, 112, 112} {
		deepest, e := machrun.Deepest(chain, nil, fuel, 120)
		if e != api.OK || deepest != want {
			t.Errorf("with the fuel %d Deepest returned %d, %d, not %d", fuel, deepest, e, want)
		}
	}
	expect(t, []example{
		{"the entry alone", "frame 0 48; return", nil, 100, returned(1, 0), 48},
		{"the deepest first", "frame 0 16; call f1; call f2; return; frame 0 64; return; frame 0 32; return", nil, 100, returned(5, 0), 80},
		{"the deepest last", "frame 0 16; call f2; call f1; return; frame 0 64; return; frame 0 32; return", nil, 100, returned(5, 0), 80},
		{"one after the other", "frame 0 16; " + repeat(20, "call f1; ") + "return; frame 0 16; return", nil, 300, returned(41, 0), 32},
		{"without a push that does not fit", "frame 0 16; call f1; return; frame 0 32; call f2; return; frame 0 64; return", nil, 111, stopped(api.Overflow, 2), 48},
		{"before an undefined value", "frame 0 16; call f1; load r0 0 1; return; frame 0 32; return", nil, 64, stopped(api.Undef, 3), 48},
		{"before a trap", "frame 0 16; call f1; trap 5; frame 0 32; return", nil, 64, api.Outcome{Kind: api.Trapped, Code: 5, Steps: 3}, 48},
	})
}

// The greatest stack and the most steps.

func TestGreatestRuns(t *testing.T) {
	top := strconv.Itoa(api.MaxStack)
	for _, x := range []struct {
		name, text string
		want       api.Outcome
		deepest    int
	}{
		{"calls without end", "frame 0 16; call f0; return", stopped(api.Overflow, api.MaxStack/16), api.MaxStack},
		{"calls of frames without bytes", "frame 0 0; call f0; return", stopped(api.Fuel, api.MaxFuel), 0},
		{"the greatest frame", "frame 0 " + top + "; store 0 r0 16; store 1048560 r0 16; move 7 1048567 8; load r0 1048575 1; return", returned(5, 0), api.MaxStack},
		{"stores in the greatest frame", "frame 0 " + top + "; store 0 r0 16; move 1048560 0 16; load r1 1048560 16; jump @0", stopped(api.Fuel, api.MaxFuel), api.MaxStack},
		{"calls of the greatest frame", "frame 0 0; " + repeat(100, "call f1; ") + "jump @0; frame 0 " + top + "; store 0 r0 16; return", stopped(api.Fuel, api.MaxFuel), api.MaxStack},
	} {
		o, deepest, e := called(t, program(t, 16, x.text), nil, api.MaxFuel, api.MaxStack)
		if e != api.OK || !equal(o, x.want) || deepest != x.deepest {
			t.Errorf("%s: Run and Deepest returned %v, %d, %d, not %v, %d", x.name, o, deepest, e, x.want, x.deepest)
		}
	}
	// All the way back: each activation finds its bytes again.
	back := program(t, 16, "frame 0 16; const r0 14284; const r1 1; call f1; return; frame 0 16; store 0 r0 8; sub r0 r0 r1; branch r0 @4; jump @5; call f1; load r2 0 8; return")
	if o := check(t, back, nil, api.MaxFuel, api.MaxStack); o.Kind != api.Returned || o.Steps < 85000 {
		t.Errorf("the long way back ended with %d after %d steps", o.Kind, o.Steps)
	}
}

// The examples of the document

func TestExamples(t *testing.T) {
	three := "frame 0 16; call f1; call f2; return; frame 0 32; return; frame 0 48; return"
	expect(t, []example{
		{"chapter 12", "frame 0 32; return", nil, 16, stopped(api.Overflow, 0), 0},
		{"example 8", three, nil, 64, returned(5, 0), 64},
		{"example 9", three, nil, 63, stopped(api.Overflow, 3), 48},
	})
}

func TestRandomTargets(t *testing.T) {
	c := chance(12)
	kinds := map[int]int{}
	for range 6000 {
		g, input := c.target(), c.input()
		o := check(t, g, input, 1000, c.below(1200))
		kinds[o.Kind]++
		size := c.below(1200)
		o = check(t, g, input, 200, size)
		check(t, g, input, c.below(o.Steps+2), size)
	}
	for _, kind := range []int{api.Returned, api.Trapped, api.Divided, api.Undef, api.Fuel, api.Overflow} {
		if kinds[kind] < 100 {
			t.Errorf("only %d random targets end with the kind %d: %v", kinds[kind], kind, kinds)
		}
	}
	if kinds[api.Wild] > 0 {
		t.Errorf("%d right targets end with the kind Wild", kinds[api.Wild])
	}
}

// A greater stack changes no outcome but that of Overflow, and Deepest is at most the size of the stack. A stack of so many bytes is enough, and one of a byte less is not.
func TestConsequences(t *testing.T) {
	c := chance(120)
	for range 1000 {
		g, input := c.target(), c.input()
		full, _ := machrun.Run(g, input, 200, 100000)
		needed, _ := machrun.Deepest(g, input, 200, 100000)
		if full.Kind == api.Overflow {
			t.Fatalf("%d bytes are too few: %v", needed, g)
		}
		for size := range needed + 20 {
			if size > 100 && size < needed-20 {
				continue
			}
			o, _ := machrun.Run(g, input, 200, size)
			deepest, _ := machrun.Deepest(g, input, 200, size)
			if deepest > size || (o.Kind == api.Overflow) != (size < needed) {
				t.Fatalf("on %d bytes of %d, Run and Deepest returned %v, %d: %v", size, needed, o, deepest, g)
			}
			if o.Kind != api.Overflow && !sirrun.Same(o, full) {
				t.Fatalf("on %d and on many bytes Run returned %v and %v: %v", size, o, full, g)
			}
		}
	}
}

// R2

func TestResultsAreNew(t *testing.T) {
	g := program(t, 16, "frame 0 16; in r0; out r0; in r0; out r0; return")
	a, _ := machrun.Run(g, []uint64{1, 2}, 10, 16)
	b, _ := machrun.Run(g, []uint64{1, 2}, 10, 16)
	for i := range a.Trace[:cap(a.Trace)] {
		a.Trace[:cap(a.Trace)][i] = api.Value{Lo: 9}
	}
	again, _ := machrun.Run(g, []uint64{1, 2}, 10, 16)
	for _, o := range []api.Outcome{b, again} {
		if !equal(o, returned(5, 2, 1, 2)) {
			t.Errorf("after the trace of another run was changed, an outcome is %v", o)
		}
	}
}

func TestManyAtOnce(t *testing.T) {
	c := chance(128)
	for range 20 {
		g, input := c.target(), c.input()
		want, wantDeepest := modelled(g, input, 500, 400)
		var wait sync.WaitGroup
		for range 8 {
			wait.Go(func() {
				o, _ := machrun.Run(g, input, 500, 400)
				deepest, _ := machrun.Deepest(g, input, 500, 400)
				if !equal(o, want) || deepest != wantDeepest {
					t.Errorf("beside other runs, Run and Deepest returned %v, %d, not %v, %d", o, deepest, want, wantDeepest)
				}
			})
		}
		wait.Wait()
	}
}
