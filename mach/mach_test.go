package mach_test

import (
	"math"
	"slices"
	"strings"
	"testing"

	"spillframe/api"
	"spillframe/mach"
)

const greatest = 2147483519 // bytes of the greatest frame

var (
	ret  = api.Instr{Op: api.Return}
	call = api.Instr{Op: api.Call, A: 1}
)

// far has numbers that no list has, and that in a narrower type would be small.
func far() []int {
	return []int{math.MinInt, math.MinInt + 1, -1 << 32, -1<<32 + 1, -1000, -16, -2, -1, 1 << 16, 1 << 31, 1 << 32, 1<<32 + 1, 1 << 62, math.MaxInt - 1, math.MaxInt}
}

// numbers has every number up to 34, the numbers around the limits, and some far away.
func numbers() []int {
	l := far()
	for n := range 35 {
		l = append(l, n)
	}
	for _, n := range []int{api.MaxFuncs, api.MaxCode, greatest, api.MaxBound} {
		l = append(l, n-16, n-1, n, n+1)
	}
	return l
}

// chance is a generator without a pattern that the functions have.
type chance uint64

// below returns a number from 0 to n - 1.
func (c *chance) below(n int) int {
	*c = *c*6364136223846793005 + 1442695040888963407
	return int(uint64(*c) >> 33 % uint64(n))
}

func pick[T any](c *chance, l []T) T {
	return l[c.below(len(l))]
}

// repeated returns n elements x.
func repeated[T any](n int, x T) []T {
	return slices.Repeat([]T{x}, n)
}

func target(frames ...api.Frame) api.Target {
	return api.Target{Align: 16, Frames: frames}
}

// code returns a frame of 128 bytes without parameters.
func code(l ...api.Instr) api.Frame {
	return api.Frame{Size: 128, Code: l}
}

func cloneFrame(f api.Frame) api.Frame {
	f.Code = slices.Clone(f.Code)
	return f
}

func clone(t api.Target) api.Target {
	out := api.Target{Align: t.Align}
	for _, f := range t.Frames {
		out.Frames = append(out.Frames, cloneFrame(f))
	}
	return out
}

// roomy returns a copy of a target with spare capacity in which the lists would go on, with right and with wrong elements.
func roomy(t api.Target) api.Target {
	out := clone(t)
	last := api.Instr{Op: api.Call, A: len(t.Frames) - 1}
	for i, f := range out.Frames {
		f.Code = append(f.Code, last, ret, api.Instr{Op: 99, A: 7})[:len(f.Code)]
		out.Frames[i] = f
	}
	out.Frames = append(out.Frames, api.Frame{Params: 3, Size: 64, Code: []api.Instr{ret}}, api.Frame{Params: -1})[:len(out.Frames)]
	return out
}

// whole returns a copy of all memory of a target.
func whole(t api.Target) api.Target {
	out := api.Target{Align: t.Align}
	for _, f := range t.Frames[:cap(t.Frames)] {
		f.Code = slices.Clone(f.Code[:cap(f.Code)])
		out.Frames = append(out.Frames, f)
	}
	return out
}

// keeps calls the function with a copy of the target that has spare capacity, and checks that it leaves all of the copy's memory as it is.
func keeps(t *testing.T, name string, g api.Target, call func(g api.Target)) {
	t.Helper()
	r := roomy(g)
	before := whole(r)
	call(r)
	if !equal(whole(r), before) {
		t.Fatalf("%s changed its argument %v to %v", name, before, whole(r))
	}
}

func checkInstr(t *testing.T, g api.Target, i, k int) {
	t.Helper()
	if got, want := mach.CheckInstr(g, i, k), instrError(g, i, k); got != want {
		t.Fatalf("instruction %d of frame %d of %v is %d, not %d", k, i, g, got, want)
	}
}

// checkTarget compares Check, CheckFrame of every frame and CheckInstr of every instruction with the model.
func checkTarget(t *testing.T, g api.Target) {
	t.Helper()
	keeps(t, "a check", g, func(g api.Target) {
		if got, want := mach.Check(g), targetError(g); got != want {
			t.Fatalf("Check(%v) returned %d, not %d", g, got, want)
		}
		for i := -1; i <= len(g.Frames); i++ {
			if got, want := mach.CheckFrame(g, i), frameError(g, i); got != want {
				t.Fatalf("CheckFrame(%v, %d) returned %d, not %d", g, i, got, want)
			}
		}
		for i, f := range g.Frames {
			for k := -1; k <= len(f.Code); k++ {
				checkInstr(t, g, i, k)
			}
		}
	})
}

// sample is a right target in which every operation of the target language occurs.
func sample() api.Target {
	entry := api.Frame{Size: 48, Code: []api.Instr{
		{Op: api.Const, A: 1, Imm: 7},
		{Op: api.In, A: 0},
		{Op: api.Branch, A: 0, B: 5},
		{Op: api.Copy, A: 7, B: 1},
		{Op: api.Pair, A: 2, B: 1, C: 7},
		{Op: api.Store, A: 40, B: 1, C: 8},
		{Op: api.Move, A: 8, B: 40, C: 8},
		{Op: api.Load, A: 3, B: 32, C: 16},
		{Op: api.Call, A: 1},
		{Op: api.High, A: 4, B: 3},
		{Op: api.Out, A: 4},
		{Op: api.Jump, A: 12},
		ret,
	}}
	called := api.Frame{Params: 3, Size: 16, Code: []api.Instr{
		{Op: api.Load, A: 5, B: 48, C: 16},
		{Op: api.Move, A: 0, B: 63, C: 1},
	}}
	for op := api.Add; op <= api.Equal; op++ {
		called.Code = append(called.Code, api.Instr{Op: op, A: 6, B: 5, C: 4})
	}
	called.Code = append(called.Code, api.Instr{Op: api.Trap, Imm: math.MaxUint64})
	return target(entry, called)
}

// P10.1

// Neither the frame nor whether the operands are right matters.
func TestReadsAndWrites(t *testing.T) {
	frames := []api.Frame{{}, {Size: 16, Code: []api.Instr{ret}}, {Params: 8, Size: 64}, {Params: -1, Size: math.MaxInt}}
	ops := append(numbers(), 1<<8+api.Load, 1<<32+api.Load, 1<<32+api.Store, -1<<32+api.Move)
	for _, op := range ops {
		for _, a := range numbers() {
			for _, b := range numbers() {
				for _, c := range []int{16, 1, 3, 0, -1, 1 << 32, math.MinInt} {
					x := api.Instr{Op: op, A: a, B: b, C: c, Imm: uint64(a)}
					var read, written api.Interval
					if op == 15 || op == 17 {
						read = api.Interval{Off: b, Size: c}
					}
					if op == 16 || op == 17 {
						written = api.Interval{Off: a, Size: c}
					}
					f := frames[(a+b)&3]
					if got, is := mach.Reads(f, x); got != read || is != (op == 15 || op == 17) {
						t.Fatalf("Reads(%v, %v) returned %v, %t", f, x, got, is)
					}
					if got, is := mach.Writes(f, x); got != written || is != (op == 16 || op == 17) {
						t.Fatalf("Writes(%v, %v) returned %v, %t", f, x, got, is)
					}
				}
			}
		}
	}
}

func TestReadsKeepsTheFrame(t *testing.T) {
	for _, x := range []api.Instr{{Op: api.Load, B: 8, C: 8}, {Op: api.Store, A: 8, C: 8}, {Op: api.Move, A: 8, C: 8}, ret} {
		keeps(t, "Reads or Writes", sample(), func(g api.Target) {
			for _, f := range g.Frames {
				mach.Reads(f, x)
				mach.Writes(f, x)
			}
		})
	}
}

// P10.2

func TestNoInstruction(t *testing.T) {
	g := target(code(ret, ret), code(ret))
	for _, x := range []struct {
		g    api.Target
		i, k int
		want api.Errno
	}{
		{g, 0, 0, api.OK},
		{g, 0, 1, api.OK},
		{g, 0, 2, api.ErrRange},
		{g, 1, 0, api.OK},
		{g, 1, 1, api.ErrRange},
		{g, 2, 0, api.ErrRange},
		{g, -1, 0, api.ErrRange},
		{g, 0, -1, api.ErrRange},
		{target(), 0, 0, api.ErrRange},
		{api.Target{}, 0, 0, api.ErrRange},
		{target(api.Frame{}), 0, 0, api.ErrRange},
		{target(api.Frame{}, code(ret)), 1, 0, api.OK},
	} {
		if got := mach.CheckInstr(x.g, x.i, x.k); got != x.want {
			t.Errorf("CheckInstr(%v, %d, %d) returned %d, not %d", x.g, x.i, x.k, got, x.want)
		}
	}
	for _, n := range far() {
		for _, place := range [][2]int{{n, 0}, {0, n}, {n, n}} {
			keeps(t, "CheckInstr", g, func(g api.Target) {
				if got := mach.CheckInstr(g, place[0], place[1]); got != api.ErrRange {
					t.Errorf("CheckInstr of the instruction %v returned %d", place, got)
				}
			})
		}
	}
}

// Every combination of numbers as Align, Params and Size.
func TestShapes(t *testing.T) {
	aligns := append(far(), 0, 3, 5, 6, 7, 12, 24, 48, 1<<24-1, 1<<24+1)
	for e := range 63 {
		aligns = append(aligns, 1<<e)
	}
	sizes := append(numbers(), 40, 48, 64, 1<<24, 1<<24+16, 1<<30, greatest-127, greatest-15, greatest-7, greatest-3)
	for _, align := range aligns {
		for _, size := range sizes {
			for _, params := range append(far(), 0, 1, 7, 8, 9, 10, 16) {
				g := api.Target{Align: align, Frames: []api.Frame{code(), {Params: params, Size: size, Code: []api.Instr{ret}}, code()}}
				checkInstr(t, g, 1, 0)
				if got, want := mach.CheckFrame(g, 1), frameError(g, 1); got != want {
					t.Fatalf("CheckFrame with the shape %d %d %d returned %d, not %d", align, params, size, got, want)
				}
			}
		}
	}
}

func TestShapeExamples(t *testing.T) {
	for _, x := range []struct {
		align, params, size int
		want                api.Errno
	}{
		{16, 0, 0, api.OK},
		{16, 0, 16, api.OK},
		{16, 8, 32, api.OK},
		{16, 9, 32, api.ErrRange},
		{16, -1, 32, api.ErrRange},
		{16, 0, -16, api.ErrRange},
		{16, 0, 8, api.ErrRange},
		{16, 0, 24, api.ErrRange},
		{8, 0, 24, api.OK},
		{1, 0, 23, api.OK},
		{2, 0, 23, api.ErrRange},
		{0, 0, 0, api.ErrRange},
		{3, 0, 3, api.ErrRange},
		{-16, 0, 16, api.ErrRange},
		{api.MaxAlign, 0, 0, api.OK},
		{api.MaxAlign, 0, api.MaxAlign, api.OK},
		{api.MaxAlign, 0, 16, api.ErrRange},
		{2 * api.MaxAlign, 0, 0, api.ErrRange},
		{1, 0, api.MaxBound - 128, api.OK},
		{1, 8, api.MaxBound - 128, api.OK},
		{1, 0, api.MaxBound - 127, api.ErrRange},
		{1, 8, api.MaxBound - 127, api.ErrRange},
		{1, 0, api.MaxBound, api.ErrRange},
		{16, 0, api.MaxBound - 143, api.OK},
		{16, 0, api.MaxBound - 127, api.ErrRange},
	} {
		g := api.Target{Align: x.align, Frames: []api.Frame{{Params: x.params, Size: x.size, Code: []api.Instr{ret}}}}
		if got := mach.CheckInstr(g, 0, 0); got != x.want {
			t.Errorf("CheckInstr with the shape %v is %d", x, got)
		}
		if got := mach.CheckFrame(g, 0); got != x.want {
			t.Errorf("CheckFrame with the shape %v is %d", x, got)
		}
	}
}

func TestInstrExamples(t *testing.T) {
	const (
		ok     = api.OK
		format = api.ErrFormat
		none   = api.ErrRange
		size   = api.ErrSize
		target = api.ErrTarget
	)
	for _, x := range []struct {
		instr api.Instr
		want  api.Errno
	}{
		{api.Instr{Op: api.Const, A: 7, Imm: math.MaxUint64}, ok},
		{api.Instr{Op: api.Const, A: 8}, none},
		{api.Instr{Op: api.Const, A: -1}, none},
		{api.Instr{Op: api.Const, A: 1, B: 1}, format},
		{api.Instr{Op: api.Const, A: 1, C: -1}, format},
		{api.Instr{Op: api.Copy, A: 7, B: 7}, ok},
		{api.Instr{Op: api.Copy, A: 7, B: 8}, none},
		{api.Instr{Op: api.Copy, A: 8, B: 7}, none},
		{api.Instr{Op: api.Copy, A: 7, B: 7, C: 1}, format},
		{api.Instr{Op: api.Copy, A: 7, B: 7, Imm: 1}, format},
		{api.Instr{Op: api.Add, A: 7, B: 7, C: 7}, ok},
		{api.Instr{Op: api.Equal, A: 7, B: 7, C: 8}, none},
		{api.Instr{Op: api.Pair, C: 8}, none},
		{api.Instr{Op: api.Pair, A: 1, B: 2, C: 3, Imm: 1 << 63}, format},
		{api.Instr{Op: api.High, A: 1, B: 2, C: 3}, format},
		{api.Instr{Op: api.In, A: 7}, ok},
		{api.Instr{Op: api.Out, A: 7, B: 7}, format},
		{api.Instr{Op: api.Load, A: 7, B: 0, C: 8}, ok},
		{api.Instr{Op: api.Load, A: 8, B: 0, C: 8}, none},
		{api.Instr{Op: api.Load, A: 7, B: 0, C: 0}, size},
		{api.Instr{Op: api.Load, A: 7, B: 0, C: 3}, size},
		{api.Instr{Op: api.Load, A: 7, B: 0, C: 32}, size},
		{api.Instr{Op: api.Load, A: 7, B: 0, C: -8}, size},
		{api.Instr{Op: api.Load, A: 7, B: 1, C: 8}, ok},
		{api.Instr{Op: api.Load, A: 7, B: 9, C: 8}, ok},
		{api.Instr{Op: api.Load, A: 7, B: 16, C: 16}, ok},
		{api.Instr{Op: api.Load, A: 7, B: 40, C: 8}, ok},
		{api.Instr{Op: api.Load, A: 7, B: 41, C: 8}, none},
		{api.Instr{Op: api.Load, A: 7, B: 48, C: 1}, none},
		{api.Instr{Op: api.Load, A: 7, B: 47, C: 1}, ok},
		{api.Instr{Op: api.Load, A: 7, B: -1, C: 1}, none},
		{api.Instr{Op: api.Load, A: 7, B: 0, C: 8, Imm: 1}, format},
		{api.Instr{Op: api.Store, A: 0, B: 7, C: 16}, ok},
		{api.Instr{Op: api.Store, A: 8, B: 7, C: 8}, ok},
		{api.Instr{Op: api.Store, A: 12, B: 7, C: 8}, none},
		{api.Instr{Op: api.Store, A: 12, B: 8, C: 8}, none},
		{api.Instr{Op: api.Store, A: 16, B: 7, C: 1}, none},
		{api.Instr{Op: api.Store, A: 15, B: 7, C: 1}, ok},
		{api.Instr{Op: api.Store, A: 15, B: 7, C: 2}, none},
		{api.Instr{Op: api.Store, A: -1, B: 7, C: 2}, none},
		{api.Instr{Op: api.Store, A: 1, B: 7, C: 5}, size},
		{api.Instr{Op: api.Store, A: 1, B: 7, C: 4, Imm: 4}, format},
		{api.Instr{Op: api.Move, A: 0, B: 8, C: 8}, ok},
		{api.Instr{Op: api.Move, A: 4, B: 4, C: 8}, ok},
		{api.Instr{Op: api.Move, A: 4, B: 7, C: 8}, ok},
		{api.Instr{Op: api.Move, A: 8, B: 40, C: 8}, ok},
		{api.Instr{Op: api.Move, A: 8, B: 41, C: 8}, none},
		{api.Instr{Op: api.Move, A: 9, B: 40, C: 8}, none},
		{api.Instr{Op: api.Move, A: 40, B: 8, C: 8}, none},
		{api.Instr{Op: api.Move, A: 0, B: -1, C: 1}, none},
		{api.Instr{Op: api.Move, A: -1, B: 0, C: 1}, none},
		{api.Instr{Op: api.Move, A: 0, B: 0, C: 0}, size},
		{api.Instr{Op: api.Move, A: 0, B: 0, C: 1, Imm: 1}, format},
		{api.Instr{Op: api.Arg}, none},
		{api.Instr{Op: api.Arg, A: 1, B: 7}, none},
		{api.Instr{Op: api.Arg, C: 1, Imm: 1}, none},
		{api.Instr{Op: api.Param}, none},
		{api.Instr{Op: api.Param, A: 7, B: 1}, none},
		{api.Instr{Op: api.Param, C: 1, Imm: 1}, none},
		{api.Instr{Op: api.Jump, A: 0}, ok},
		{api.Instr{Op: api.Jump, A: 1}, target},
		{api.Instr{Op: api.Jump, A: -1}, target},
		{api.Instr{Op: api.Jump, A: 1, B: 1}, format},
		{api.Instr{Op: api.Branch, A: 7, B: 0}, ok},
		{api.Instr{Op: api.Branch, A: 7, B: 1}, target},
		{api.Instr{Op: api.Branch, A: 7, B: -1}, target},
		{api.Instr{Op: api.Branch, A: 8, B: 1}, none},
		{api.Instr{Op: api.Branch, A: 8, B: 1, C: 1}, format},
		{api.Instr{Op: api.Call, A: 2}, ok},
		{api.Instr{Op: api.Call, A: 3}, none},
		{api.Instr{Op: api.Call, A: -1}, none},
		{api.Instr{Op: api.Call, A: 3, B: 1}, format},
		{ret, ok},
		{api.Instr{Op: api.Return, A: 1}, format},
		{api.Instr{Op: api.Return, Imm: 1}, format},
		{api.Instr{Op: api.Trap, Imm: math.MaxUint64}, ok},
		{api.Instr{Op: api.Trap, A: 1}, format},
		{api.Instr{Op: api.Ops}, none},
		{api.Instr{Op: -1}, none},
		{api.Instr{Op: api.Ops, A: 1, B: 1, C: 1, Imm: 1}, none},
	} {
		// The frame has the offsets from 0 to 15, the parameters those from 16 to 47.
		f := api.Frame{Params: 2, Size: 16, Code: []api.Instr{x.instr}}
		g := api.Target{Align: 16, Frames: []api.Frame{{}, f, {}}}
		if got := mach.CheckInstr(g, 1, 0); got != x.want {
			t.Errorf("%v is %d, not %d", x.instr, got, x.want)
		}
	}
}

// The example of chapter 10.
func TestExample(t *testing.T) {
	for at, want := range map[int]api.Errno{8: api.OK, 12: api.ErrRange} {
		g := target(api.Frame{Size: 16, Code: []api.Instr{{Op: api.Store, A: at, B: 1, C: 8}, ret}})
		if got := mach.Check(g); got != want || mach.CheckInstr(g, 0, 0) != want {
			t.Errorf("with Store at %d Check returned %d, not %d", at, got, want)
		}
	}
}

// places has targets with frames of every kind, also wrong ones: CheckInstr looks at no frame but that of its instruction.
func places() []api.Target {
	blank := func(n int) []api.Instr { return make([]api.Instr, n) }
	return []api.Target{
		target(api.Frame{Code: blank(1)}),
		target(api.Frame{Params: 1, Size: 16, Code: blank(2)}, api.Frame{Params: 7}),
		{Align: 1, Frames: []api.Frame{{Params: 8, Size: 9, Code: blank(11)}, {Params: -1}, {Size: 3}, {Size: 2, Code: blank(20)}}},
		{Align: 2, Frames: []api.Frame{{Params: 9, Size: 16, Code: blank(9)}, {Params: 2, Size: 18, Code: blank(5)}}},
		{Align: 8, Frames: append(repeated(api.MaxFuncs, api.Frame{Params: 3, Size: 5}), api.Frame{Size: greatest - 7, Code: blank(api.MaxCode)})},
		{Align: 1, Frames: []api.Frame{{Params: 8, Size: greatest, Code: blank(api.MaxCode + 1)}}},
	}
}

// variants returns an operation with many combinations of operands.
func variants(op int) []api.Instr {
	var l []api.Instr
	for _, a := range numbers() {
		for _, b := range numbers() {
			for _, c := range []int{0, 1, 2, 7, 8, 16, -1, 1 << 32} {
				l = append(l, api.Instr{Op: op, A: a, B: b, C: c})
			}
			l = append(l, api.Instr{Op: op, A: a, B: b, C: 8, Imm: 1 << 63})
		}
		l = append(l, api.Instr{Op: op, A: a, Imm: 1})
	}
	return l
}

// The variants of every operation, as the last instruction of each frame that has code.
func TestEveryInstruction(t *testing.T) {
	all := places()
	for op := range api.Ops {
		for _, x := range variants(op) {
			for _, g := range all {
				for i, f := range g.Frames {
					if last := len(f.Code) - 1; last >= 0 {
						f.Code[last] = x
						checkInstr(t, g, i, last)
					}
				}
			}
		}
	}
}

func TestEveryOperation(t *testing.T) {
	for _, op := range append(numbers(), 1<<8+api.Return, 1<<32+api.Return) {
		for _, x := range []api.Instr{{Op: op}, {Op: op, A: 1}, {Op: op, C: 1}, {Op: op, A: 1, B: 1, C: 1, Imm: 1}, {Op: op, C: 8}, {Op: op, Imm: 1}} {
			checkTarget(t, target(code(x, x), api.Frame{}))
		}
	}
}

// Every offset in and around small frames with every number of parameters, for every number of bytes.
func TestOffsets(t *testing.T) {
	for _, align := range []int{1, 4, 16} {
		for size := 0; size <= 48; size += align {
			for params := range 9 {
				f := api.Frame{Params: params, Size: size, Code: make([]api.Instr, 1)}
				g := api.Target{Align: align, Frames: []api.Frame{f}}
				for c := -1; c <= 17; c++ {
					for off := -18; off <= size+16*params+18; off++ {
						for _, x := range []api.Instr{{Op: api.Load, B: off, C: c}, {Op: api.Store, A: off, C: c}, {Op: api.Move, A: off, C: c}, {Op: api.Move, B: off, C: c}, {Op: api.Move, A: off, B: off, C: c}} {
							f.Code[0] = x
							checkInstr(t, g, 0, 0)
						}
					}
				}
			}
		}
	}
}

// Offsets around the end of the greatest frame and of its parameters, and such that the end of the bytes is no int.
func TestFarOffsets(t *testing.T) {
	for _, size := range []int{16, 1 << 24, greatest - 1, greatest} {
		for params := range 9 {
			offsets := numbers()
			for d := -18; d <= 2; d++ {
				offsets = append(offsets, size+d, size+16*params+d, api.MaxBound+d, math.MaxInt+min(d, 0), math.MinInt+max(d, 0))
			}
			f := api.Frame{Params: params, Size: size, Code: make([]api.Instr, 1)}
			g := api.Target{Align: 1, Frames: []api.Frame{f}}
			for _, off := range offsets {
				for _, c := range []int{1, 2, 4, 8, 16, 0, math.MaxInt} {
					for _, x := range []api.Instr{{Op: api.Load, B: off, C: c}, {Op: api.Store, A: off, C: c}, {Op: api.Move, A: off, C: c}, {Op: api.Move, B: off, C: c}} {
						f.Code[0] = x
						checkInstr(t, g, 0, 0)
					}
				}
			}
		}
	}
	end := api.Frame{Params: 8, Size: greatest, Code: []api.Instr{{Op: api.Load, B: api.MaxBound - 16, C: 16}, {Op: api.Move, A: greatest - 8, B: api.MaxBound - 8, C: 8}, ret}}
	if got := mach.CheckFrame(api.Target{Align: 1, Frames: []api.Frame{end}}, 0); got != api.OK {
		t.Errorf("a frame that reads its last parameter at the greatest offset is %d", got)
	}
}

// The errors of one instruction, each alone and together with those that come after it.
func TestOrderOfInstrErrors(t *testing.T) {
	for _, x := range []struct {
		instr api.Instr
		want  api.Errno
	}{
		{api.Instr{Op: 99, A: 99, B: 99, C: 99, Imm: 99}, api.ErrRange},
		{api.Instr{Op: api.Arg, A: 99, B: 99, C: 99, Imm: 99}, api.ErrRange},
		{api.Instr{Op: api.Branch, A: 99, B: 99, C: 99}, api.ErrFormat},
		{api.Instr{Op: api.Branch, A: 99, B: 99, Imm: 99}, api.ErrFormat},
		{api.Instr{Op: api.Branch, A: 99, B: 99}, api.ErrRange},
		{api.Instr{Op: api.Branch, B: 99}, api.ErrTarget},
		{api.Instr{Op: api.Load, A: 99, B: 99, C: 99, Imm: 1}, api.ErrFormat},
		{api.Instr{Op: api.Load, A: 99, B: 99, C: 99}, api.ErrRange},
		{api.Instr{Op: api.Load, B: 99, C: 99}, api.ErrSize},
		{api.Instr{Op: api.Load, B: 99, C: 1}, api.ErrRange},
		{api.Instr{Op: api.Store, A: 99, B: 99, C: 99, Imm: 1}, api.ErrFormat},
		{api.Instr{Op: api.Store, A: 99, B: 99, C: 99}, api.ErrRange},
		{api.Instr{Op: api.Store, A: 99, C: 99}, api.ErrSize},
		{api.Instr{Op: api.Store, A: 99, C: 1}, api.ErrRange},
		{api.Instr{Op: api.Move, A: 99, B: 99, C: 99, Imm: 1}, api.ErrFormat},
		{api.Instr{Op: api.Move, A: 99, B: 99, C: 99}, api.ErrSize},
		{api.Instr{Op: api.Move, A: 99, B: 99, C: 1}, api.ErrRange},
		{api.Instr{Op: api.Jump, A: 99, C: 1}, api.ErrFormat},
		{api.Instr{Op: api.Jump, A: 99}, api.ErrTarget},
		{api.Instr{Op: api.Call, A: 99, C: 1}, api.ErrFormat},
		{api.Instr{Op: api.Call, A: 99}, api.ErrRange},
	} {
		g := target(api.Frame{Size: 16, Code: []api.Instr{x.instr}})
		if got := mach.CheckInstr(g, 0, 0); got != x.want {
			t.Errorf("%v is %d, not %d", x.instr, got, x.want)
		}
		for _, change := range []func(g *api.Target){
			func(g *api.Target) { g.Align = 3 },
			func(g *api.Target) { g.Align = 32 },
			func(g *api.Target) { g.Frames[0].Params = 9 },
			func(g *api.Target) { g.Frames[0].Size = -16 },
		} {
			wrong := clone(g)
			change(&wrong)
			if got := mach.CheckInstr(wrong, 0, 0); got != api.ErrRange {
				t.Errorf("%v in a frame of a wrong shape is %d", x.instr, got)
			}
		}
	}
}

// What an operand names belongs to the frame of the instruction, not to another one.
func TestFrameOfInstruction(t *testing.T) {
	long := api.Frame{Params: 8, Size: 64, Code: repeated(9, ret)}
	for _, x := range []struct {
		instr api.Instr
		want  api.Errno
	}{
		{api.Instr{Op: api.Load, B: 32, C: 8}, api.ErrRange},
		{api.Instr{Op: api.Store, A: 16, C: 8}, api.ErrRange},
		{api.Instr{Op: api.Move, A: 16, B: 0, C: 8}, api.ErrRange},
		{api.Instr{Op: api.Move, A: 0, B: 32, C: 8}, api.ErrRange},
		{api.Instr{Op: api.Jump, A: 8}, api.ErrTarget},
		{api.Instr{Op: api.Branch, B: 8}, api.ErrTarget},
		{api.Instr{Op: api.Call, A: 2}, api.OK},
	} {
		short := api.Frame{Params: 1, Size: 16, Code: []api.Instr{x.instr}}
		if got := mach.CheckInstr(target(long, short, long), 1, 0); got != x.want {
			t.Errorf("%v of a short frame is %d, not %d", x.instr, got, x.want)
		}
		right := cloneFrame(long)
		right.Code[3] = x.instr
		if got := mach.CheckInstr(target(short, right, short), 1, 3); got != api.OK {
			t.Errorf("%v of a long frame is %d", x.instr, got)
		}
	}
}

// P10.3

func TestFrameExamples(t *testing.T) {
	for _, x := range []struct {
		name string
		f    api.Frame
		want api.Errno
	}{
		{"a return", code(ret), api.OK},
		{"a frame without bytes", api.Frame{Code: []api.Instr{ret}}, api.OK},
		{"a loop", code(api.Instr{Op: api.Jump}), api.OK},
		{"a trap", code(api.Instr{Op: api.Trap, Imm: 9}), api.OK},
		{"no instruction", code(), api.ErrTarget},
		{"an empty list", api.Frame{Code: []api.Instr{}}, api.ErrTarget},
		{"a branch at the end", code(ret, api.Instr{Op: api.Branch, A: 1, B: 0}), api.ErrTarget},
		{"a call at the end", code(ret, api.Instr{Op: api.Call}), api.ErrTarget},
		{"an output after a return", code(ret, api.Instr{Op: api.Out}), api.ErrTarget},
		{"the most instructions", code(repeated(api.MaxCode, ret)...), api.OK},
		{"one instruction more", code(repeated(api.MaxCode+1, ret)...), api.ErrLimit},
		{"too many wrong instructions", code(make([]api.Instr, api.MaxCode+1)...), api.ErrLimit},
		{"too many instructions and a wrong size", api.Frame{Size: 8, Code: repeated(api.MaxCode+1, ret)}, api.ErrRange},
		{"too many instructions and parameters", api.Frame{Params: 9, Code: repeated(api.MaxCode+1, ret)}, api.ErrRange},
		{"no instruction and a wrong size", api.Frame{Size: 8}, api.ErrRange},
		{"the most parameters", api.Frame{Params: api.MaxArity, Code: []api.Instr{ret}}, api.OK},
		{"one parameter more", api.Frame{Params: api.MaxArity + 1, Code: []api.Instr{ret}}, api.ErrRange},
		{"less than no parameters", api.Frame{Params: -1, Code: []api.Instr{ret}}, api.ErrRange},
		{"a wrong register", code(api.Instr{Op: api.In, A: 8}, ret), api.ErrRange},
		{"a wrong operation at the end", code(ret, api.Instr{Op: api.Ops}), api.ErrRange},
		{"a wrong operand at the end", code(ret, api.Instr{Op: api.Return, A: 1}), api.ErrFormat},
		{"an outgoing argument", code(api.Instr{Op: api.Arg}, ret), api.ErrRange},
		{"a parameter", api.Frame{Params: 1, Code: []api.Instr{{Op: api.Param}, ret}}, api.ErrRange},
		{"a call without bytes for arguments", api.Frame{Code: []api.Instr{{Op: api.Call, A: 0}, ret}}, api.OK},
	} {
		for _, g := range []api.Target{target(x.f), target(api.Frame{Params: -1}, x.f, api.Frame{})} {
			i := len(g.Frames) / 2
			if got := mach.CheckFrame(g, i); got != x.want {
				t.Errorf("%s, as frame %d, is %d, not %d", x.name, i, got, x.want)
			}
		}
	}
}

// CheckFrame needs no least alignment, and looks at no other frame, however many there are.
func TestFrameBesideOthers(t *testing.T) {
	for _, align := range []int{1, 2, 4, 8} {
		if got := mach.CheckFrame(api.Target{Align: align, Frames: []api.Frame{code(ret)}}, 0); got != api.OK {
			t.Errorf("CheckFrame with the Align %d returned %d", align, got)
		}
	}
	wrong := api.Frame{Params: 99, Size: -1, Code: []api.Instr{{Op: 99}}}
	many := append(repeated(api.MaxFuncs+9, wrong), code(api.Instr{Op: api.Call, A: api.MaxFuncs + 8}, ret))
	for _, g := range []api.Target{target(many...), target(wrong, code(call, ret)), target(code(call, ret), wrong)} {
		for i := range g.Frames {
			if got, want := mach.CheckFrame(g, i), frameError(g, i); got != want {
				t.Errorf("CheckFrame of frame %d of %d returned %d, not %d", i, len(g.Frames), got, want)
			}
		}
	}
	if got := mach.CheckFrame(target(many...), len(many)-1); got != api.OK {
		t.Errorf("CheckFrame of a right frame behind many wrong ones returned %d", got)
	}
}

func TestNoFrame(t *testing.T) {
	f := code(ret)
	for _, g := range []api.Target{{}, {Align: 16}, target(), target(f), target(f, f)} {
		for _, i := range append(far(), len(g.Frames), len(g.Frames)+1) {
			keeps(t, "CheckFrame", g, func(g api.Target) {
				if got := mach.CheckFrame(g, i); got != api.ErrRange {
					t.Errorf("CheckFrame of frame %d of %d returned %d", i, len(g.Frames), got)
				}
			})
		}
	}
}

// A fault makes a target wrong; its error is that of P10.3 or P10.4 if there is no fault before it.
type fault struct {
	want api.Errno
	add  func(g *api.Target)
}

// frameFaults has faults of frame 1, which has five instructions, in the order of P10.3.
func frameFaults() []fault {
	at := func(k int, x api.Instr) func(g *api.Target) {
		return func(g *api.Target) { g.Frames[1].Code[k] = x }
	}
	long := func(g *api.Target) { g.Frames[1].Code = append(g.Frames[1].Code, make([]api.Instr, api.MaxCode)...) }
	return []fault{
		{api.ErrRange, func(g *api.Target) { g.Frames[1].Size += 8 }},
		{api.ErrLimit, long},
		{api.ErrFormat, at(0, api.Instr{Op: api.In, B: 1})},
		{api.ErrSize, at(1, api.Instr{Op: api.Move, C: 3})},
		{api.ErrTarget, at(2, api.Instr{Op: api.Jump, A: -1})},
		{api.ErrRange, at(3, api.Instr{Op: api.Load, B: 999, C: 1})},
		{api.ErrTarget, at(4, call)},
	}
}

// checkFaults gives a target every combination of faults, of which the first one gives the error.
func checkFaults(t *testing.T, name string, base api.Target, faults []fault, check, model func(g api.Target) api.Errno) {
	t.Helper()
	for chosen := range 1 << len(faults) {
		g := clone(base)
		want := api.OK
		for n := len(faults) - 1; n >= 0; n-- {
			if chosen>>n&1 == 1 {
				faults[n].add(&g)
				want = faults[n].want
			}
		}
		if got := check(g); got != want {
			t.Errorf("with the faults %b %s returned %d, not %d", chosen, name, got, want)
		}
		if got := model(g); got != want {
			t.Errorf("with the faults %b the model of %s is %d, not %d", chosen, name, got, want)
		}
	}
}

func TestOrderOfFrameErrors(t *testing.T) {
	base := target(api.Frame{}, code(repeated(5, ret)...), api.Frame{})
	check := func(g api.Target) api.Errno { return mach.CheckFrame(g, 1) }
	model := func(g api.Target) api.Errno { return frameError(g, 1) }
	checkFaults(t, "CheckFrame", base, frameFaults(), check, model)
}

// An instruction that is wrong is found wherever it is, also where it is never reached.
func TestWrongInstructionAnywhere(t *testing.T) {
	for _, n := range []int{1, 2, 5, api.MaxCode} {
		for k := range n {
			f := code(repeated(n, ret)...)
			f.Code[k].C = 1
			if got := mach.CheckFrame(target(f), 0); got != api.ErrFormat {
				t.Fatalf("with a wrong instruction %d of %d CheckFrame returned %d", k, n, got)
			}
		}
	}
}

// Only a terminator can be the last instruction, and the code may have others before it.
func TestLastOperation(t *testing.T) {
	for op := range api.Ops {
		if op == api.Arg || op == api.Param {
			continue
		}
		x := api.Instr{Op: op}
		if strings.Contains(usesOf(op), "c") {
			x.C = 1
		}
		want := api.ErrTarget
		if op == api.Jump || op == api.Return || op == api.Trap {
			want = api.OK
		}
		if got := mach.CheckFrame(target(code(ret, x)), 0); got != want {
			t.Errorf("CheckFrame with the operation %d at the end returned %d, not %d", op, got, want)
		}
		if got := mach.CheckFrame(target(code(x, ret)), 0); got != api.OK {
			t.Errorf("CheckFrame with the operation %d before the end returned %d", op, got)
		}
	}
}

// P10.4

func TestTargetExamples(t *testing.T) {
	aligned := func(n int, frames ...api.Frame) api.Target { return api.Target{Align: n, Frames: frames} }
	f, called := code(ret), api.Frame{Params: 8, Code: []api.Instr{ret}}
	one, two := api.Instr{Op: api.Trap, A: 1}, api.Instr{Op: api.Jump, A: 1}
	for _, x := range []struct {
		name string
		g    api.Target
		want api.Errno
	}{
		{"a return", target(f), api.OK},
		{"all operations", sample(), api.OK},
		{"the example of chapter 11", target(api.Frame{Size: 32, Code: []api.Instr{ret}}), api.OK},
		{"DOC.md's example 8", target(api.Frame{Size: 16, Code: []api.Instr{call, {Op: api.Call, A: 2}, ret}}, api.Frame{Size: 32, Code: []api.Instr{ret}}, api.Frame{Size: 48, Code: []api.Instr{ret}}), api.OK},
		{"a zero target", api.Target{}, api.ErrRange},
		{"no frames", target(), api.ErrRange},
		{"an empty list", api.Target{Align: 16, Frames: []api.Frame{}}, api.ErrRange},
		{"no frames and a wrong alignment", aligned(3), api.ErrRange},
		{"the most frames", target(repeated(api.MaxFuncs, f)...), api.OK},
		{"one frame more", target(repeated(api.MaxFuncs+1, f)...), api.ErrLimit},
		{"too many wrong frames", aligned(3, repeated(api.MaxFuncs+1, called)...), api.ErrLimit},
		{"no alignment", aligned(0, f), api.ErrSize},
		{"a negative alignment", aligned(-16, f), api.ErrSize},
		{"the alignment 1", aligned(1, f), api.ErrSize},
		{"the alignment 8", aligned(8, f), api.ErrSize},
		{"the alignment 15", aligned(15, code(ret)), api.ErrSize},
		{"the alignment 17", aligned(17, api.Frame{Size: 34, Code: f.Code}), api.ErrSize},
		{"the alignment 24", aligned(24, api.Frame{Size: 48, Code: f.Code}), api.ErrSize},
		{"the alignment 32", aligned(32, f), api.OK},
		{"the alignment 32 and a size that is no multiple", aligned(32, api.Frame{Size: 48, Code: f.Code}), api.ErrRange},
		{"the greatest alignment", aligned(api.MaxAlign, api.Frame{Size: api.MaxAlign, Code: f.Code}), api.OK},
		{"a greater alignment", aligned(2*api.MaxAlign, api.Frame{Code: f.Code}), api.ErrSize},
		{"an alignment that is far too great", aligned(1<<32+16, f), api.ErrSize},
		{"a wrong alignment and an entry with parameters", aligned(8, called), api.ErrSize},
		{"an entry with parameters", target(called), api.ErrArity},
		{"an entry with too many parameters", target(api.Frame{Params: 9, Code: f.Code}), api.ErrArity},
		{"an entry with less than no parameters", target(api.Frame{Params: -1, Code: f.Code}), api.ErrArity},
		{"an entry with parameters and without code", target(api.Frame{Params: 1}), api.ErrArity},
		{"another frame with parameters", target(f, called), api.OK},
		{"an entry without code", target(code(), f), api.ErrTarget},
		{"another frame without code", target(f, f, code()), api.ErrTarget},
		{"another frame with too many parameters", target(f, api.Frame{Params: 9, Code: f.Code}), api.ErrRange},
		{"the greatest frame", target(api.Frame{Size: api.MaxBound - 143, Code: f.Code}), api.OK},
		{"a greater frame", target(api.Frame{Size: api.MaxBound - 127, Code: f.Code}), api.ErrRange},
		{"two wrong frames", target(f, code(one), code(two)), api.ErrFormat},
		{"two wrong frames, the other way round", target(f, code(two), code(one)), api.ErrTarget},
		{"a wrong entry and a limit", target(code(one), code(repeated(api.MaxCode+1, two)...)), api.ErrFormat},
		{"an entry that calls itself", target(code(api.Instr{Op: api.Call}, ret)), api.OK},
		{"a call to no frame", target(code(call, ret)), api.ErrRange},
		{"a call with too few bytes and a wrong frame after it", target(api.Frame{Size: 112, Code: []api.Instr{call, ret}}, called, code(one)), api.ErrFormat},
		{"a call with too few bytes and a frame without code", target(api.Frame{Size: 112, Code: []api.Instr{call, ret}}, called, code()), api.ErrTarget},
		{"a call with too few bytes", target(api.Frame{Size: 112, Code: []api.Instr{call, ret}}, called), api.ErrArity},
		{"a call with just enough bytes", target(api.Frame{Size: 128, Code: []api.Instr{call, ret}}, called), api.OK},
		{"a call with too few bytes that is not reached", target(api.Frame{Size: 112, Code: []api.Instr{ret, call, ret}}, called), api.ErrArity},
		{"a call with too few bytes in a frame that is not called", target(f, called, api.Frame{Size: 112, Code: []api.Instr{call, ret}}), api.ErrArity},
		{"a frame with too few bytes that calls itself", target(f, api.Frame{Params: 2, Size: 16, Code: []api.Instr{call, ret}}), api.ErrArity},
		{"a frame with enough bytes that calls itself", target(f, api.Frame{Params: 2, Size: 32, Code: []api.Instr{call, ret}}), api.OK},
		{"a frame without bytes that calls one without parameters", target(api.Frame{Code: []api.Instr{call, ret}}, f), api.OK},
		{"an operand 1 of another operation", target(api.Frame{Code: []api.Instr{{Op: api.Branch, A: 1, B: 1}, {Op: api.In, A: 1}, {Op: api.Jump, A: 1}}}, called), api.OK},
	} {
		if got := mach.Check(x.g); got != x.want {
			t.Errorf("%s: Check returned %d, not %d", x.name, got, x.want)
		}
		checkTarget(t, x.g)
	}
}

func TestAlignments(t *testing.T) {
	for _, align := range append(numbers(), 1<<20, 1<<24, 1<<25, 1<<33) {
		for _, size := range []int{0, 16, 1 << 24} {
			checkTarget(t, api.Target{Align: align, Frames: []api.Frame{{Size: size, Code: []api.Instr{ret}}}})
		}
	}
}

// Each frame in turn calls each frame, with every number of parameters and around the bytes that these need.
func TestCallsWithParameters(t *testing.T) {
	for caller := range 4 {
		for called := 1; called < 4; called++ {
			for params := range 9 {
				for size := 0; size <= 144; size += 16 {
					g := target(repeated(4, api.Frame{Code: []api.Instr{ret}})...)
					g.Frames[called].Params = params
					g.Frames[caller].Size = size
					g.Frames[caller].Code = []api.Instr{ret, {Op: api.Call, A: caller}, {Op: api.Call, A: called}, ret}
					want := api.OK
					if 16*params > size {
						want = api.ErrArity
					}
					if got := mach.Check(g); got != want {
						t.Errorf("frame %d of %d bytes calls frame %d with %d parameters: Check returned %d", caller, size, called, params, got)
					}
					checkTarget(t, g)
				}
			}
		}
	}
}

// targetFaults has faults in the order of P10.4.
func targetFaults() []fault {
	many := func(g *api.Target) { g.Frames = append(g.Frames, repeated(api.MaxFuncs, code(ret))...) }
	wrong := func(i int, x api.Instr) func(g *api.Target) {
		return func(g *api.Target) { g.Frames[i].Code[0] = x }
	}
	return []fault{
		{api.ErrLimit, many},
		{api.ErrSize, func(g *api.Target) { g.Align = 8 }},
		{api.ErrArity, func(g *api.Target) { g.Frames[0].Params = 1 }},
		{api.ErrTarget, wrong(0, api.Instr{Op: api.Jump, A: 9})},
		{api.ErrRange, func(g *api.Target) { g.Frames[1].Params = 9 }},
		{api.ErrFormat, wrong(2, api.Instr{Op: api.Return, B: 1})},
		{api.ErrArity, func(g *api.Target) { g.Frames[3].Code[0] = api.Instr{Op: api.Call, A: 3} }},
	}
}

func TestOrderOfTargetErrors(t *testing.T) {
	small := api.Frame{Params: 8, Size: 112, Code: []api.Instr{ret, ret}}
	base := target(code(ret, ret), code(ret, ret), code(ret, ret), small)
	checkFaults(t, "Check", base, targetFaults(), mach.Check, targetError)
}

// Elements beyond the length of a list do not count, however many they are.
func TestSpareCapacity(t *testing.T) {
	called := api.Frame{Params: 8, Code: []api.Instr{ret}}
	short := api.Frame{Code: append([]api.Instr{ret}, repeated(api.MaxCode, call)...)[:1]}
	frames := append([]api.Frame{short, called}, repeated(api.MaxFuncs, api.Frame{Params: -1})...)
	for i, want := range []api.Errno{api.OK, api.OK, api.ErrRange} {
		if got := mach.CheckFrame(target(frames[:2]...), i); got != want {
			t.Errorf("CheckFrame of frame %d returned %d", i, got)
		}
		if got := mach.CheckInstr(target(frames[:2]...), i, 0); got != want {
			t.Errorf("CheckInstr of frame %d returned %d", i, got)
		}
		if got := mach.CheckInstr(target(frames[:2]...), i, 1); got != api.ErrRange {
			t.Errorf("CheckInstr of no instruction of frame %d returned %d", i, got)
		}
	}
	if got := mach.Check(target(frames[:2]...)); got != api.OK {
		t.Errorf("Check returned %d", got)
	}
}

// A wrong frame is found wherever it is.
func TestWrongFrameAnywhere(t *testing.T) {
	for _, n := range []int{1, 2, 7, api.MaxFuncs} {
		for i := range n {
			l := repeated(n, code(ret))
			l[i] = code(api.Instr{Op: api.Return, Imm: 1})
			if got := mach.Check(target(l...)); got != api.ErrFormat {
				t.Fatalf("with a wrong frame %d of %d Check returned %d", i, n, got)
			}
		}
	}
}

// The target with the most instructions, each of which accesses memory.
func TestGreatestTarget(t *testing.T) {
	f := code(repeated(api.MaxCode, api.Instr{Op: api.Move, A: 112, B: 3, C: 16})...)
	f.Code[api.MaxCode-1] = ret
	g := target(repeated(api.MaxFuncs, f)...)
	if got := mach.Check(g); got != api.OK {
		t.Errorf("Check of the greatest target returned %d", got)
	}
	last := cloneFrame(f)
	last.Code[api.MaxCode-2].A = 113
	g.Frames[api.MaxFuncs-1] = last
	if got := mach.Check(g); got != api.ErrRange {
		t.Errorf("Check of the greatest target with a wrong instruction returned %d", got)
	}
}

// randomInstr returns an instruction that is mostly right for f.
func randomInstr(c *chance, g api.Target, f api.Frame) api.Instr {
	x := api.Instr{Op: c.below(api.Ops)}
	if x.Op == api.Arg || x.Op == api.Param {
		x.Op = api.Call
	}
	kinds := usesOf(x.Op)
	if kinds[2] == 'c' {
		x.C = 1 << c.below(5)
	}
	counts := map[byte]int{'r': 8, 'f': len(g.Frames), 't': len(f.Code), 'o': f.Size + 1 - x.C}
	for o, n := range []*int{&x.A, &x.B, &x.C} {
		if kinds[o] != 'c' && counts[kinds[o]] > 0 {
			*n = c.below(counts[kinds[o]])
		}
	}
	if kinds[1] == 'o' && c.below(4) == 0 {
		x.B += c.below(16*f.Params + 1)
	}
	if strings.Contains(kinds, "#") {
		x.Imm = uint64(c.below(1 << 30))
	}
	if c.below(100) == 0 {
		x = api.Instr{Op: pick(c, numbers()), A: c.below(3), B: pick(c, numbers()), C: c.below(3)}
	}
	return x
}

func randomFrame(c *chance, g api.Target) api.Frame {
	f := api.Frame{Params: c.below(9), Size: g.Align * (1 + c.below(12)), Code: make([]api.Instr, 1+c.below(6))}
	for k := range f.Code {
		f.Code[k] = randomInstr(c, g, f)
	}
	if c.below(20) > 0 {
		f.Code[len(f.Code)-1] = api.Instr{Op: api.Trap}
	}
	if c.below(100) == 0 {
		f.Params = pick(c, numbers())
	}
	if c.below(100) == 0 {
		f.Size = pick(c, numbers())
	}
	return f
}

func randomTarget(c *chance) api.Target {
	g := api.Target{Align: 16 << c.below(3), Frames: make([]api.Frame, 1+c.below(4))}
	if c.below(30) == 0 {
		g.Align = 1 << c.below(26)
	}
	for i := range g.Frames {
		g.Frames[i] = randomFrame(c, g)
	}
	if c.below(10) > 0 {
		g.Frames[0].Params = 0
	}
	return g
}

func TestRandomTargets(t *testing.T) {
	c := chance(10)
	found := map[api.Errno]int{}
	for range 40000 {
		g := randomTarget(&c)
		checkTarget(t, g)
		found[targetError(g)]++
	}
	for _, e := range []api.Errno{api.OK, api.ErrFormat, api.ErrRange, api.ErrSize, api.ErrTarget, api.ErrArity} {
		if found[e] < 100 {
			t.Errorf("only %d of the targets are %d", found[e], e)
		}
	}
}

// accessible marks the bytes from SP on that an instruction of a frame may read, and those that it may write.
func accessible(f api.Frame) (read, write map[int]bool) {
	read, write = map[int]bool{}, map[int]bool{}
	for off := range f.Size {
		read[off], write[off] = true, true
	}
	for n := range 16 * f.Params {
		read[f.Size+n] = true
	}
	return read, write
}

// The consequence of chapter 10: right targets access only the bytes that they may.
func TestRightTargets(t *testing.T) {
	c := chance(11)
	accesses := 0
	for range 4000 {
		g := randomTarget(&c)
		if g.Align > 64 || mach.Check(g) != api.OK {
			continue
		}
		for _, f := range g.Frames {
			read, write := accessible(f)
			for _, x := range f.Code {
				r, reads := mach.Reads(f, x)
				w, writes := mach.Writes(f, x)
				if reads || writes {
					accesses++
				}
				for n := range r.Size {
					if !read[r.Off+n] {
						t.Fatalf("%v, a part of the right target %v, reads too far", x, g)
					}
				}
				for n := range w.Size {
					if !write[w.Off+n] {
						t.Fatalf("%v, a part of the right target %v, writes too far", x, g)
					}
				}
			}
		}
	}
	if accesses < 1000 {
		t.Errorf("right targets had only %d accesses", accesses)
	}
}

// P10.5

// changes has functions that each make another target of one whose frame i has at least two different instructions.
func changes(i int) []func(g *api.Target) {
	at := func(n, count int) int { return n * (count - 1) / 2 }
	frame := func(change func(f *api.Frame)) func(g *api.Target) {
		return func(g *api.Target) { change(&g.Frames[i]) }
	}
	l := []func(g *api.Target){
		func(g *api.Target) { g.Align *= 2 },
		func(g *api.Target) { g.Align += 1 << 32 },
		func(g *api.Target) { g.Frames = nil },
		func(g *api.Target) { g.Frames = g.Frames[1:] },
		func(g *api.Target) { g.Frames = g.Frames[:len(g.Frames)-1] },
		func(g *api.Target) { g.Frames = append(g.Frames, api.Frame{}) },
		frame(func(f *api.Frame) { f.Params++ }),
		frame(func(f *api.Frame) { f.Params -= 1 << 32 }),
		frame(func(f *api.Frame) { f.Size += 16 }),
		frame(func(f *api.Frame) { f.Size += 1 << 32 }),
		frame(func(f *api.Frame) { f.Params, f.Size = f.Size, f.Params }),
		frame(func(f *api.Frame) { f.Code = nil }),
		frame(func(f *api.Frame) { f.Code = f.Code[1:] }),
		frame(func(f *api.Frame) { f.Code = f.Code[:len(f.Code)-1] }),
		frame(func(f *api.Frame) { f.Code = append(f.Code, api.Instr{}) }),
		frame(func(f *api.Frame) { f.Code[0], f.Code[1] = f.Code[1], f.Code[0] }),
	}
	for n := range 3 {
		l = append(l,
			frame(func(f *api.Frame) { f.Code[at(n, len(f.Code))].Op++ }),
			frame(func(f *api.Frame) { f.Code[at(n, len(f.Code))].A-- }),
			frame(func(f *api.Frame) { f.Code[at(n, len(f.Code))].B += 1 << 32 }),
			frame(func(f *api.Frame) { f.Code[at(n, len(f.Code))].C++ }),
			frame(func(f *api.Frame) { f.Code[at(n, len(f.Code))].Imm ^= 1 << 63 }),
		)
	}
	return l
}

func checkSame(t *testing.T, a, b api.Target, want bool) {
	t.Helper()
	keeps(t, "Same", a, func(a api.Target) {
		keeps(t, "Same", b, func(b api.Target) {
			if got := mach.Same(a, b); got != want {
				t.Errorf("Same(%v, %v) returned %t", a, b, got)
			}
			if got := mach.Same(b, a); got != want {
				t.Errorf("Same(%v, %v) returned %t", b, a, got)
			}
		})
	})
	if equal(a, b) != want {
		t.Errorf("the model of Same of %v and %v is not %t", a, b, want)
	}
}

func TestSameOfChanges(t *testing.T) {
	wrong := api.Frame{Params: -4, Size: 3, Code: []api.Instr{{Op: 99, Imm: 5}, {A: -1, B: 2, C: 3}}}
	for _, base := range []api.Target{sample(), {Align: -3, Frames: repeated(3, wrong)}} {
		checkSame(t, base, clone(base), true)
		for i := range base.Frames {
			for _, change := range changes(i) {
				other := clone(base)
				change(&other)
				checkSame(t, base, other, false)
			}
		}
	}
}

func TestSameOfLists(t *testing.T) {
	one, two := code(ret), code(ret, ret)
	l := []api.Target{{}, {Align: 1}, target(), target(api.Frame{}), target(api.Frame{}, api.Frame{}), target(one), target(two), target(one, two), target(two, one), target(one, one), target(one, two, one), target(two, one, api.Frame{}), {Frames: []api.Frame{one}}}
	for i, a := range l {
		for k, b := range l {
			checkSame(t, a, b, i == k)
		}
	}
}

func TestNilIsEmpty(t *testing.T) {
	for _, f := range []api.Frame{{}, {Code: []api.Instr{}}, {Code: make([]api.Instr, 0, 4)}} {
		for _, g := range []api.Frame{{}, {Code: []api.Instr{}}, {Code: make([]api.Instr, 0, 4)}} {
			if !mach.Same(target(f), target(g)) {
				t.Errorf("nil and an empty list of instructions are not the same")
			}
		}
	}
	if !mach.Same(api.Target{}, api.Target{Frames: []api.Frame{}}) || !mach.Same(api.Target{Frames: []api.Frame{}}, api.Target{}) {
		t.Errorf("nil and an empty list of frames are not the same")
	}
	if mach.Same(target(), target(api.Frame{})) {
		t.Errorf("no frame and an empty one are the same")
	}
}

func TestSameOfItself(t *testing.T) {
	c := chance(12)
	before := api.Target{}
	for range 5000 {
		g := randomTarget(&c)
		if !mach.Same(g, g) || !mach.Same(g, clone(g)) || mach.Same(g, before) != equal(g, before) {
			t.Fatalf("Same is wrong for %v, itself, and %v", g, before)
		}
		before = g
	}
}

// Operands, which chapter 10 does not list (R8)

func TestOperands(t *testing.T) {
	for _, op := range append(numbers(), 1<<8+api.Add, 1<<32+api.Add, -1<<32+api.Add) {
		want, wantImm := 0, false
		if below(op, 25) && op != 18 && op != 19 {
			kinds := usesOf(op)
			want, wantImm = 3-strings.Count(kinds, "-"), strings.Contains(kinds, "#")
		}
		if got, imm := mach.Operands(op); got != want || imm != wantImm {
			t.Errorf("Operands(%d) returned %d, %t, not %d, %t", op, got, imm, want, wantImm)
		}
	}
}

// The operands that an operation uses are the first ones.
func TestFirstOperands(t *testing.T) {
	for op, kinds := range uses {
		if strings.Contains(strings.TrimRight(kinds, "-#"), "-") {
			t.Errorf("the operands of operation %d are %s", op, kinds)
		}
	}
}
