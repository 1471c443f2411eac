package flow_test

import (
	"math"
	"slices"
	"strings"
	"testing"

	"spillframe/api"
	"spillframe/flow"
	"spillframe/sir"
	"spillframe/sirtext"
)

// program reads a right program, of which semicolons end the lines.
func program(t *testing.T, text string) api.Program {
	t.Helper()
	p, line, e := sirtext.Parse(strings.ReplaceAll(text, ";", "\n"))
	if e != api.OK {
		t.Fatalf("line %d of %q has the error %d", line, text, e)
	}
	return p
}

// entry reads the code of a function without slots.
func entry(t *testing.T, code string) api.Func {
	t.Helper()
	return program(t, "func 0;"+code).Funcs[0]
}

// numbers are far from the indices of most functions, or in a narrower type would be small.
func numbers() []int {
	return []int{math.MinInt, math.MinInt + 1, -1 << 32, -1<<32 + 1, -1 << 16, -1000, -2, -1, 1 << 8, 1 << 16, 1 << 31, 1 << 32, 1<<32 + 1, 1 << 62, math.MaxInt - 1, math.MaxInt}
}

// results are all that the functions return for a function and the numbers from -1 to the number of its instructions, which come last in next and blocks.
type results struct {
	next    [][]int
	before  [][]int
	reached []bool
	leaders []int
	blocks  []api.Interval
}

func resultsOf(f api.Func) results {
	r := results{before: flow.Before(f), reached: flow.Reached(f), leaders: flow.Leaders(f)}
	for k := -1; k <= len(f.Code); k++ {
		r.next = append(r.next, flow.Next(f, k))
		r.blocks = append(r.blocks, flow.Block(f, k))
	}
	return r
}

func modelled(f api.Func) results {
	r := results{before: beforeOf(f), reached: reachedOf(f), leaders: leadersOf(f)}
	for k := -1; k <= len(f.Code); k++ {
		r.next = append(r.next, nextOf(f, k))
		r.blocks = append(r.blocks, blockOf(f, r.leaders, k))
	}
	return r
}

func equal(a, b results) bool {
	return slices.EqualFunc(a.next, b.next, slices.Equal) &&
		slices.EqualFunc(a.before, b.before, slices.Equal) &&
		slices.Equal(a.reached, b.reached) &&
		slices.Equal(a.leaders, b.leaders) &&
		slices.Equal(a.blocks, b.blocks)
}

// roomy returns a copy of f with spare capacity in which its lists would go on.
func roomy(f api.Func) api.Func {
	f.Slots = append(slices.Clone(f.Slots), api.Slot{Size: 1, Align: 1})[:len(f.Slots)]
	n := len(f.Code)
	f.Code = append(slices.Clone(f.Code), api.Instr{Op: api.Branch}, api.Instr{Op: api.Jump, A: n / 2}, api.Instr{Op: api.Jump, A: n})[:n]
	return f
}

// whole returns a copy of all memory of f.
func whole(f api.Func) api.Func {
	f.Slots = slices.Clone(f.Slots[:cap(f.Slots)])
	f.Code = slices.Clone(f.Code[:cap(f.Code)])
	return f
}

// called returns the results for a copy of f that has spare capacity, and checks that all of its memory remains as it is.
func called(t *testing.T, f api.Func) results {
	t.Helper()
	r := roomy(f)
	before := whole(r)
	got := resultsOf(r)
	if !sir.SameFunc(whole(r), before) {
		t.Fatalf("the argument %v is changed to %v", before, whole(r))
	}
	return got
}

// check compares all results with the model.
func check(t *testing.T, f api.Func) {
	t.Helper()
	if got, want := called(t, f), modelled(f); !equal(got, want) {
		t.Fatalf("the results for %v are\n%v, not\n%v", f, got, want)
	}
}

// checkRight is check, for a function that has to be right as the only one of a program.
func checkRight(t *testing.T, f api.Func) {
	t.Helper()
	if e := sir.Check(api.Program{Funcs: []api.Func{f}}); e != api.OK {
		t.Fatalf("%v has the error %d", f, e)
	}
	check(t, f)
}

func checkNext(t *testing.T, f api.Func, k int, want ...int) {
	t.Helper()
	if got := flow.Next(f, k); !slices.Equal(got, want) {
		t.Errorf("Next(%v, %d) returned %v, not %v", f, k, got, want)
	}
}

// P13.1

// The example of chapter 13.
func TestExample(t *testing.T) {
	f := entry(t, "branch r0 @2; trap 1; return")
	checkNext(t, f, 0, 1, 2)
	checkNext(t, f, 1)
	checkNext(t, f, 2)
	check(t, f)
}

func TestNext(t *testing.T) {
	f := entry(t, "jump @5; branch r7 @1; branch r0 @0; branch r3 @4; branch r5 @7; const r1 6; trap 3; return; jump @8; jump @2")
	for k, want := range [][]int{{5}, {1, 2}, {0, 3}, {4}, {5, 7}, {6}, {}, {}, {8}, {2}} {
		checkNext(t, f, k, want...)
	}
	check(t, f)
}

func TestBefore(t *testing.T) {
	f := entry(t, "jump @5; branch r7 @1; branch r0 @0; branch r3 @4; branch r5 @7; const r1 6; trap 3; return; jump @8; jump @2")
	want := [][]int{{2}, {1}, {1, 9}, {2}, {3}, {0, 4}, {5}, {4}, {8}, {}}
	if got := flow.Before(f); !slices.EqualFunc(got, want, slices.Equal) {
		t.Errorf("Before(%v) returned %v, not %v", f, got, want)
	}
}

// Every operation, with operands that would be targets if they were those of another one.
func TestEveryOperation(t *testing.T) {
	follow := map[string][]int{"jump @5": {5}, "branch r4 @5": {2, 5}, "return": {}, "trap 5": {}}
	for _, x := range []string{"const r2 3", "copy r3 r2", "add r3 r2 r5", "sub r3 r2 r5", "mul r3 r2 r5", "div r3 r2 r5", "and r3 r2 r5", "or r3 r2 r5", "xor r3 r2 r5", "less r3 r2 r5", "equal r5 r2 r5", "pair r3 r2 r5", "high r5 r3", "in r5", "out r5", "load r5 s0", "store s0 r5", "move s0 s2", "arg a5 r3", "param r3 a5", "call f4"} {
		follow[x] = []int{2}
	}
	seen := map[int]bool{}
	for x, want := range follow {
		slots := strings.Repeat("slot 8 8; ", 3)
		others := strings.Repeat("; func 0; return", 3)
		p := program(t, "func 0; return; func 8; "+slots+"out r1; "+x+"; out r1; "+x+"; out r1; out r1; return"+others)
		f := p.Funcs[1]
		checkNext(t, f, 1, want...)
		check(t, f)
		seen[f.Code[1].Op] = true
	}
	if len(seen) != api.Ops {
		t.Errorf("%d operations were checked", len(seen))
	}
}

func TestNoInstruction(t *testing.T) {
	for _, f := range []api.Func{entry(t, "return"), entry(t, "jump @0"), entry(t, "branch r0 @2; branch r1 @0; trap 1"), longest()} {
		for _, k := range append(numbers(), len(f.Code), len(f.Code)+1, -len(f.Code)) {
			if 0 <= k && k < len(f.Code) {
				continue
			}
			checkNext(t, f, k)
			if got := flow.Block(f, k); got != (api.Interval{}) {
				t.Errorf("Block(%v, %d) returned %v", f, k, got)
			}
		}
	}
}

// P13.2

func TestReached(t *testing.T) {
	for code, want := range map[string][]int{
		"return":                        {0},
		"jump @0":                       {0},
		"trap 1; return":                {0},
		"jump @1; return":               {0, 1},
		"jump @2; return; return":       {0, 2},
		"jump @2; return; jump @1":      {0, 1, 2},
		"branch r0 @0; return; jump @0": {0, 1},
		"branch r0 @2; return; jump @2": {0, 1, 2},
		"const r0 1; branch r0 @3; jump @1; return; const r1 1; jump @4":             {0, 1, 2, 3},
		"jump @3; out r1; return; branch r0 @5; trap 1; jump @1; jump @7; jump @6":   {0, 1, 2, 3, 4, 5},
		"call f0; return; branch r0 @0; branch r0 @2; return":                        {0, 1},
		"jump @4; jump @0; jump @1; jump @2; jump @3; jump @5":                       {0, 1, 2, 3, 4},
		"const r0 0; branch r0 @4; return; trap 1; return":                           {0, 1, 2, 4},
		"branch r1 @3; branch r2 @3; return; branch r3 @6; jump @2; return; jump @0": {0, 1, 2, 3, 4, 6},
	} {
		f := entry(t, code)
		var got []int
		for k, reached := range flow.Reached(f) {
			if reached {
				got = append(got, k)
			}
		}
		if !slices.Equal(got, want) {
			t.Errorf("Reached of %q is true for %v, not for %v", code, got, want)
		}
		check(t, f)
	}
}

// P13.3

func TestLeadersAndBlocks(t *testing.T) {
	for code, want := range map[string][]int{
		"return":                           {0},
		"const r0 1; const r0 1; return":   {0},
		"const r0 1; jump @0":              {0},
		"const r0 1; jump @1":              {0, 1},
		"const r0 1; branch r0 @1; return": {0, 1, 2},
		"const r0 1; branch r0 @0; return": {0, 2},
		"trap 1; trap 2; return; return":   {0, 1, 2, 3},
		"return; const r0 1; return":       {0, 1},
		"jump @2; out r0; out r0; return":  {0, 1, 2},
		"call f0; out r0; call f0; trap 2": {0},
		"out r0; out r0; out r0; jump @2":  {0, 2},
		"out r1; return; out r0; jump @0":  {0, 2},
		"return; out r0; out r0; jump @2":  {0, 1, 2},
		"out r0; trap 1; out r0; return":   {0, 2},
		"branch r2 @4; out r1; in r1; return; out r2; out r1; branch r1 @5; in r2; return": {0, 1, 4, 5, 7},
	} {
		f := entry(t, code)
		if got := flow.Leaders(f); !slices.Equal(got, want) {
			t.Errorf("Leaders of %q returned %v, not %v", code, got, want)
		}
		ends := append(want[1:], len(f.Code))
		for i, first := range want {
			for k := first; k < ends[i]; k++ {
				if got := flow.Block(f, k); got.Off != first || got.Size != ends[i]-first {
					t.Errorf("Block of %q and %d returned %v, not %d to %d", code, k, got, first, ends[i]-1)
				}
			}
		}
		check(t, f)
	}
}

// All promises

// control has the instructions that matter for a function with n instructions.
func control(n int) []api.Instr {
	l := []api.Instr{{Op: api.Out}, {Op: api.Return}, {Op: api.Trap}}
	for to := range n {
		l = append(l, api.Instr{Op: api.Jump, A: to}, api.Instr{Op: api.Branch, B: to})
	}
	return l
}

// eachFunc calls visit with each right function that has n instructions of control(n).
func eachFunc(n int, visit func(f api.Func)) {
	f := api.Func{Code: make([]api.Instr, n)}
	var fill func(k int)
	fill = func(k int) {
		if k == n {
			visit(f)
			return
		}
		for _, x := range control(n) {
			if k < n-1 || x.Op == api.Jump || x.Op == api.Return || x.Op == api.Trap {
				f.Code[k] = x
				fill(k + 1)
			}
		}
	}
	fill(0)
}

func TestEachShortFunction(t *testing.T) {
	for i, want := range []int{3, 7 * 4, 9 * 9 * 5, 11 * 11 * 11 * 6, 13 * 13 * 13 * 13 * 7} {
		n, count := i+1, 0
		eachFunc(n, func(f api.Func) {
			checkRight(t, f)
			count++
		})
		if count != want {
			t.Errorf("%d functions of %d instructions were checked, not %d", count, n, want)
		}
	}
}

// longest has the most instructions, and jumps over its whole length.
func longest() api.Func {
	f := api.Func{Code: slices.Repeat([]api.Instr{{Op: api.Out}}, api.MaxCode)}
	f.Code[0] = api.Instr{Op: api.Branch, B: api.MaxCode - 1}
	f.Code[api.MaxCode-1] = api.Instr{Op: api.Jump}
	return f
}

// each returns the longest function with the instruction at(k) at each index k but the last.
func each(at func(k int) api.Instr) api.Func {
	f := api.Func{Code: make([]api.Instr, api.MaxCode)}
	for k := range f.Code {
		f.Code[k] = at(k)
	}
	f.Code[api.MaxCode-1] = api.Instr{Op: api.Return}
	return f
}

// The longest functions: far jumps, long ways forwards and backwards, and instructions that follow many others.
func TestLongestFunctions(t *testing.T) {
	last := api.MaxCode - 1
	shapes := []api.Func{
		longest(),
		each(func(k int) api.Instr { return api.Instr{Op: api.Out} }),
		each(func(k int) api.Instr { return api.Instr{Op: api.Trap} }),
		each(func(k int) api.Instr { return api.Instr{Op: api.Jump, A: k + 1} }),
		each(func(k int) api.Instr { return api.Instr{Op: api.Jump, A: k} }),
		each(func(k int) api.Instr { return api.Instr{Op: api.Jump, A: last} }),
		each(func(k int) api.Instr { return api.Instr{Op: api.Jump, A: max(0, k-1)} }),
		each(func(k int) api.Instr { return api.Instr{Op: api.Jump, A: (k + last - 1) % last} }),
		each(func(k int) api.Instr { return api.Instr{Op: api.Jump, A: (k*511 + 7) % api.MaxCode} }),
		each(func(k int) api.Instr { return api.Instr{Op: api.Branch} }),
		each(func(k int) api.Instr { return api.Instr{Op: api.Branch, B: last} }),
		each(func(k int) api.Instr { return api.Instr{Op: api.Branch, B: last - k} }),
		each(func(k int) api.Instr { return api.Instr{Op: api.Branch, B: k + 1} }),
	}
	for _, f := range shapes {
		checkRight(t, f)
	}
}

// chance is a generator without a pattern that the functions have.
type chance uint64

// below returns a number from 0 to n - 1.
func (c *chance) below(n int) int {
	*c = *c*6364136223846793005 + 1442695040888963407
	return int(uint64(*c) >> 33 % uint64(n))
}

// randomFunc returns a right function, in which one of so many instructions is there for control.
func randomFunc(c *chance, length, oneOf int) api.Func {
	f := api.Func{Slots: []api.Slot{{Size: 8, Align: 8}, {Size: 8, Align: 8}}, Code: make([]api.Instr, length)}
	all := control(length)
	for k := range f.Code {
		f.Code[k] = [...]api.Instr{{Op: api.Move, A: 1}, {Op: api.Load, A: 3, B: 1}, {Op: api.Const, A: 5, Imm: 1}}[c.below(3)]
		if c.below(oneOf) == 0 {
			f.Code[k] = all[c.below(len(all))]
		}
	}
	f.Code[length-1] = [...]api.Instr{{Op: api.Jump, A: c.below(length)}, {Op: api.Return}, {Op: api.Trap, Imm: 1}}[c.below(3)]
	return f
}

func TestRandomFunctions(t *testing.T) {
	c := chance(13)
	for range 6000 {
		checkRight(t, randomFunc(&c, 1+c.below(40), 1+c.below(8)))
	}
	for range 10 {
		checkRight(t, randomFunc(&c, api.MaxCode, 1+c.below(100)))
	}
}

// checkConsequences is the section Consequences of chapter 13.
func checkConsequences(t *testing.T, f api.Func) {
	t.Helper()
	n := len(f.Code)
	before := flow.Before(f)
	for k := range n {
		for j := range n {
			if slices.Contains(flow.Next(f, k), j) != slices.Contains(before[j], k) {
				t.Fatalf("Next and Before of %v differ about %d and %d", f, k, j)
			}
		}
	}
	var firsts []int
	for k := 0; k < n; {
		b := flow.Block(f, k)
		if b.Off != k || b.Size < 1 {
			t.Fatalf("a block of %v begins at %d, but Block of that is %v", f, k, b)
		}
		firsts = append(firsts, k)
		end := k + b.Size
		for ; k < end; k++ {
			if flow.Block(f, k) != b {
				t.Fatalf("the blocks of %v do not divide it", f)
			}
			if k < end-1 && !slices.Equal(flow.Next(f, k), []int{k + 1}) {
				t.Fatalf("%d is inside a block of %v", k, f)
			}
		}
	}
	if !slices.Equal(firsts, flow.Leaders(f)) {
		t.Fatalf("the blocks of %v begin at %v", f, firsts)
	}
}

func TestConsequences(t *testing.T) {
	c := chance(14)
	for range 2000 {
		checkConsequences(t, randomFunc(&c, 1+c.below(30), 1+c.below(8)))
	}
	checkConsequences(t, longest())
}

// spoil makes all elements of a result, also the spare ones, a number that no call returns.
func spoil(l []int, n int) {
	l = l[:cap(l)]
	for i := range l {
		l[i] = n
	}
}

// checkApart spoils one list after the other and checks that this changes no other one.
func checkApart(t *testing.T, lists, want [][]int) {
	t.Helper()
	want = slices.Clone(want)
	for i, l := range lists {
		spoil(l, -7-i)
		want[i] = slices.Repeat([]int{-7 - i}, len(l))
		if !slices.EqualFunc(lists, want, slices.Equal) {
			t.Fatalf("list %d shares memory with another one: %v, not %v", i, lists, want)
		}
	}
}

// Results are new memory, and the lists of one result do not share any.
func TestNewMemory(t *testing.T) {
	c := chance(15)
	for range 300 {
		f := randomFunc(&c, 1+c.below(20), 1+c.below(4))
		want := modelled(f)
		got, other := resultsOf(f), resultsOf(f)
		checkApart(t, got.next, want.next)
		checkApart(t, got.before, want.before)
		spoil(got.leaders, -7)
		for i := range got.reached {
			got.reached[i] = !got.reached[i]
		}
		if !equal(other, want) || !equal(resultsOf(f), want) {
			t.Fatalf("the results for %v share memory with those of other calls", f)
		}
	}
}

// General rules R1 and R2, for functions that are not right

// wrongInstr returns an instruction with operands that an instruction need not have.
func wrongInstr(c *chance, length int) api.Instr {
	l := append(numbers(), -length, length-1, length, length+1)
	number := func() int {
		if c.below(2) == 0 {
			return c.below(length + 1)
		}
		return l[c.below(len(l))]
	}
	x := api.Instr{Op: number(), A: number(), B: number(), C: number(), Imm: uint64(number())}
	if c.below(4) > 0 {
		x.Op = [...]int{api.Jump, api.Branch, api.Return, api.Trap, api.Out, api.Ops, -1}[c.below(7)]
	}
	return x
}

// checkWrong checks that the functions return, that their results do not depend on spare capacity, and that Next and Before name only instructions that there are, and the same pairs.
func checkWrong(t *testing.T, f api.Func) {
	t.Helper()
	got := called(t, f)
	f.Code = slices.Clip(slices.Clone(f.Code))
	if !equal(got, resultsOf(f)) {
		t.Fatalf("the results for %v depend on spare capacity", f)
	}
	n := len(f.Code)
	if len(got.before) != n || len(got.reached) != n {
		t.Fatalf("Before or Reached of %v has not %d elements", f, n)
	}
	for k := range n {
		for _, j := range got.next[k+1] {
			if j < 0 || j >= n || !slices.Contains(got.before[j], k) {
				t.Fatalf("Next(%v, %d) returned %d", f, k, j)
			}
		}
		for _, j := range got.before[k] {
			if j < 0 || j >= n || !slices.Contains(got.next[j+1], k) {
				t.Fatalf("Before(%v) names %d for %d", f, j, k)
			}
		}
	}
	for _, k := range numbers() {
		flow.Next(f, k)
		flow.Block(f, k)
	}
}

func TestWrongFunctions(t *testing.T) {
	checkWrong(t, api.Func{})
	checkWrong(t, api.Func{Params: -1, Slots: make([]api.Slot, api.MaxSlots+1), Code: []api.Instr{}})
	checkWrong(t, api.Func{Code: make([]api.Instr, 2*api.MaxCode+1)})
	for _, op := range []int{api.Jump, api.Branch} {
		for _, to := range append(numbers(), 0, 1, 2, 3, 4) {
			x := api.Instr{Op: op, A: to, B: to}
			checkWrong(t, api.Func{Code: []api.Instr{x}})
			checkWrong(t, api.Func{Code: []api.Instr{{}, x}})
			checkWrong(t, api.Func{Code: []api.Instr{x, {Op: api.Return}, {}}})
		}
	}
	c := chance(16)
	for range 20000 {
		f := api.Func{Params: c.below(20) - 5, Code: make([]api.Instr, c.below(12))}
		for k := range f.Code {
			f.Code[k] = wrongInstr(&c, len(f.Code))
		}
		checkWrong(t, f)
	}
}

// Also a function that is far too long is looked at step by step, not by calls within calls, and in a time that its length bounds.
func TestFarTooLong(t *testing.T) {
	n := 1 << 20
	f := api.Func{Code: make([]api.Instr, n)}
	for k := range f.Code {
		f.Code[k] = api.Instr{Op: api.Branch, B: n - 1 - k}
	}
	reached := flow.Reached(f)
	if slices.Contains(reached, false) || len(flow.Before(f)) != n || len(flow.Leaders(f)) != n || flow.Block(f, n/2) != (api.Interval{Off: n / 2, Size: 1}) {
		t.Errorf("a function of %d branches is not looked at as a whole", n)
	}
}
