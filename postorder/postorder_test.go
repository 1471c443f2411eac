package postorder_test

import (
	"math"
	"slices"
	"strings"
	"testing"

	"spillframe/api"
	"spillframe/flow"
	"spillframe/postorder"
	"spillframe/sir"
	"spillframe/sirtext"
)

// entry reads the code of a function without slots, of which semicolons end the lines.
func entry(t *testing.T, code string) api.Func {
	t.Helper()
	p, line, e := sirtext.Parse("func 0\n" + strings.ReplaceAll(code, ";", "\n"))
	if e != api.OK {
		t.Fatalf("line %d of %q has the error %d", line, code, e)
	}
	return p.Funcs[0]
}

// results are all that the functions return for a function.
type results struct {
	order, rank []int
	back        [][2]int
	dominators  []int
}

func resultsOf(f api.Func) results {
	return results{postorder.Order(f), postorder.Rank(f), postorder.Back(f), postorder.Dominators(f)}
}

func modelled(f api.Func) results {
	return results{orderOf(f), rankOf(f), backOf(f), dominatorsOf(f)}
}

func equal(a, b results) bool {
	return slices.Equal(a.order, b.order) && slices.Equal(a.rank, b.rank) &&
		slices.Equal(a.back, b.back) && slices.Equal(a.dominators, b.dominators)
}

// roomy returns a copy of f with spare capacity in which its lists would go on.
func roomy(f api.Func) api.Func {
	f.Slots = append(slices.Clone(f.Slots), api.Slot{Size: 1, Align: 1})[:len(f.Slots)]
	n := len(f.Code)
	f.Code = append(slices.Clone(f.Code), api.Instr{Op: api.Branch}, api.Instr{Op: api.Jump, A: n / 2}, api.Instr{Op: api.Jump, A: n})[:n]
	return f
}

// whole returns a copy of all memory of f.
func whole(f api.Func) api.Func {
	f.Slots = slices.Clone(f.Slots[:cap(f.Slots)])
	f.Code = slices.Clone(f.Code[:cap(f.Code)])
	return f
}

// called returns the results for a copy of f that has spare capacity, and checks that all of its memory remains as it is.
func called(t *testing.T, f api.Func) results {
	t.Helper()
	r := roomy(f)
	before := whole(r)
	got := resultsOf(r)
	if !sir.SameFunc(whole(r), before) {
		t.Fatalf("the argument %v is changed to %v", before, whole(r))
	}
	return got
}

// check compares all results with the model, for a function that has to be right as the only one of a program.
func check(t *testing.T, f api.Func) {
	t.Helper()
	if e := sir.Check(api.Program{Funcs: []api.Func{f}}); e != api.OK {
		t.Fatalf("%v has the error %d", f, e)
	}
	if got, want := called(t, f), modelled(f); !equal(got, want) {
		t.Fatalf("the results for %v are\n%v, not\n%v", f, got, want)
	}
}

// The example of chapter 14.
func TestExample(t *testing.T) {
	f := entry(t, "branch r0 @2; trap 1; return")
	want := results{order: []int{0, 2, 1}, rank: []int{0, 2, 1}, dominators: []int{-1, 0, 0}}
	if got := resultsOf(f); !equal(got, want) {
		t.Errorf("the results for %v are %v, not %v", f, got, want)
	}
	check(t, f)
}

// P14.1

func TestOrderAndRank(t *testing.T) {
	for _, c := range []struct {
		code        string
		order, rank []int
	}{
		{"return", []int{0}, []int{0}},
		{"jump @0", []int{0}, []int{0}},
		{"trap 1; return; jump @0", []int{0}, []int{0, -1, -1}},
		{"in r0; in r1; return", []int{0, 1, 2}, []int{0, 1, 2}},
		{"branch r0 @1; return", []int{0, 1}, []int{0, 1}},
		{"branch r0 @0; return", []int{0, 1}, []int{0, 1}},
		{"jump @3; return; jump @1; jump @2", []int{0, 3, 2, 1}, []int{0, 3, 2, 1}},
		// The successor that comes first in the code is visited first and comes last, whether it is the target or the next instruction.
		{"jump @2; return; branch r0 @1; trap 1", []int{0, 2, 3, 1}, []int{0, 3, 1, 2}},
		{"branch r0 @3; in r1; return; in r2; return", []int{0, 3, 4, 1, 2}, []int{0, 3, 4, 1, 2}},
		// Both ways end in 4, which the search leaves before it takes the second way.
		{"branch r0 @3; in r1; jump @4; in r2; return", []int{0, 3, 1, 2, 4}, []int{0, 2, 3, 1, 4}},
		// Instruction 3 is a successor of 0, but the search visits it on its way over 1 and 2.
		{"branch r0 @3; in r1; in r2; return", []int{0, 1, 2, 3}, []int{0, 1, 2, 3}},
		{"branch r0 @3; trap 0; trap 1; branch r1 @2; branch r2 @1; return", []int{0, 3, 4, 5, 2, 1}, []int{0, 5, 4, 1, 2, 3}},
		// A loop: the search leaves 2 before 1.
		{"in r0; branch r0 @3; jump @0; return", []int{0, 1, 3, 2}, []int{0, 1, 3, 2}},
	} {
		f := entry(t, c.code)
		if got := postorder.Order(f); !slices.Equal(got, c.order) {
			t.Errorf("Order of %q returned %v, not %v", c.code, got, c.order)
		}
		if got := postorder.Rank(f); !slices.Equal(got, c.rank) {
			t.Errorf("Rank of %q returned %v, not %v", c.code, got, c.rank)
		}
		check(t, f)
	}
}

// P14.2

func TestBack(t *testing.T) {
	for code, want := range map[string][][2]int{
		"return":                       {},
		"branch r0 @2; trap 1; return": {},
		"branch r0 @1; return":         {},
		"jump @0":                      {{0, 0}},
		"branch r0 @0; return":         {{0, 0}},
		"in r0; branch r0 @0; jump @2": {{1, 0}, {2, 2}},
		// The code goes backwards, but the ranks do not: the search goes this way, or left 1 before it comes to 3.
		"jump @3; return; jump @1; jump @2":                                           {},
		"branch r0 @3; in r1; return; jump @1":                                        {},
		"return; jump @1; jump @0":                                                    {}, // not visited
		"jump @2; jump @1; return; jump @2":                                           {},
		"jump @2; return; branch r0 @1; jump @2":                                      {{3, 2}},
		"jump @3; branch r0 @0; branch r0 @1; jump @2":                                {{1, 0}, {1, 2}, {2, 3}},
		"in r0; branch r0 @1; branch r1 @0; jump @1":                                  {{1, 1}, {2, 0}, {3, 1}},
		"in r0; in r1; branch r0 @0; branch r1 @1; return; jump @0":                   {{2, 0}, {3, 1}},
		"branch r0 @3; in r1; in r2; branch r3 @1; return":                            {{3, 1}},
		"branch r0 @3; jump @3; return; branch r1 @1; jump @0":                        {{3, 1}, {4, 0}},
		"jump @4; jump @5; return; jump @1; jump @3; branch r0 @4; jump @1":           {{5, 4}, {6, 1}},
		"branch r0 @2; jump @3; jump @4; jump @2; branch r1 @1; branch r2 @4; return": {{4, 1}, {5, 4}},
	} {
		f := entry(t, code)
		if got := postorder.Back(f); !slices.Equal(got, want) {
			t.Errorf("Back of %q returned %v, not %v", code, got, want)
		}
		check(t, f)
	}
}

// P14.3

func TestDominators(t *testing.T) {
	for code, want := range map[string][]int{
		"return":                            {-1},
		"jump @0":                           {-1},
		"branch r0 @0; return":              {-1, 0},
		"branch r0 @1; return":              {-1, 0},
		"in r0; in r1; return":              {-1, 0, 1},
		"branch r0 @2; trap 1; return":      {-1, 0, 0},
		"jump @3; return; jump @1; jump @2": {-1, 2, 3, 0},
		"jump @2; jump @2; return; jump @1": {-1, -1, 0, -1}, // 1 and 3 are not reached
		// Two ways that meet in 4, and three that meet in 3.
		"branch r0 @3; in r1; jump @4; in r2; return":                     {-1, 0, 1, 0, 0},
		"branch r0 @3; branch r1 @3; in r2; branch r3 @5; trap 0; return": {-1, 0, 1, 0, 3, 3},
		// Loops that are entered at one place.
		"in r0; branch r0 @3; jump @0; return":                 {-1, 0, 1, 1},
		"in r0; in r1; branch r2 @1; branch r3 @0; return":     {-1, 0, 1, 2, 3},
		"jump @3; in r0; return; branch r0 @1; in r1; jump @3": {-1, 3, 1, 0, 3, 4},
		"in r0; branch r1 @4; branch r2 @0; jump @2; jump @0":  {-1, 0, 1, 2, 1},
		"branch r0 @3; in r1; jump @0; branch r1 @3; trap 1":   {-1, 0, 1, 0, 3},
		// Loops that are entered at two places. In the last two, a later round finds a way past what seemed to dominate, and a still later one the next.
		"branch r0 @2; in r1; branch r1 @1; return":                             {-1, 0, 0, 2},
		"branch r0 @3; in r1; in r2; branch r3 @2; return":                      {-1, 0, 0, 0, 3},
		"branch r0 @5; in r1; in r2; in r3; branch r1 @2; branch r2 @4; return": {-1, 0, 0, 2, 0, 0, 5},
	} {
		f := entry(t, code)
		if got := postorder.Dominators(f); !slices.Equal(got, want) {
			t.Errorf("Dominators of %q returned %v, not %v", code, got, want)
		}
		check(t, f)
	}
}

// All promises

// control has the instructions that matter for a function with n instructions.
func control(n int) []api.Instr {
	l := []api.Instr{{Op: api.Out}, {Op: api.Return}, {Op: api.Trap}}
	for to := range n {
		l = append(l, api.Instr{Op: api.Jump, A: to}, api.Instr{Op: api.Branch, B: to})
	}
	return l
}

// eachFunc calls visit with each right function that has n instructions of control(n).
func eachFunc(n int, visit func(f api.Func)) {
	f := api.Func{Code: make([]api.Instr, n)}
	var fill func(k int)
	fill = func(k int) {
		if k == n {
			visit(f)
			return
		}
		for _, x := range control(n) {
			if k < n-1 || sir.Terminator(x.Op) {
				f.Code[k] = x
				fill(k + 1)
			}
		}
	}
	fill(0)
}

func TestEachShortFunction(t *testing.T) {
	for i, want := range []int{3, 7 * 4, 9 * 9 * 5, 11 * 11 * 11 * 6, 13 * 13 * 13 * 13 * 7} {
		n, count := i+1, 0
		eachFunc(n, func(f api.Func) {
			check(t, f)
			count++
		})
		if count != want {
			t.Errorf("%d functions of %d instructions were checked, not %d", count, n, want)
		}
	}
}

// each returns the longest function, with the instruction at(k) at each index k but the last.
func each(at func(k int) api.Instr) api.Func {
	f := api.Func{Code: make([]api.Instr, api.MaxCode)}
	for k := range f.Code {
		f.Code[k] = at(k)
	}
	f.Code[api.MaxCode-1] = api.Instr{Op: api.Return}
	return f
}

// steps returns the longest function in which control only goes on, but for a Branch at each index to the index that to names, if that is one.
func steps(to func(k int) int) api.Func {
	return each(func(k int) api.Instr {
		if j := to(k); j >= 0 && j < api.MaxCode {
			return api.Instr{Op: api.Branch, B: j}
		}
		return api.Instr{Op: api.Out}
	})
}

// The longest functions: long ways forwards and backwards, loops in loops, and loops that are entered at many places.
func TestLongestFunctions(t *testing.T) {
	last := api.MaxCode - 1
	for _, f := range []api.Func{
		each(func(k int) api.Instr { return api.Instr{Op: api.Out} }),
		each(func(k int) api.Instr { return api.Instr{Op: api.Jump, A: k + 1} }),
		each(func(k int) api.Instr { return api.Instr{Op: api.Jump, A: (k + last - 1) % last} }),
		each(func(k int) api.Instr { return api.Instr{Op: api.Jump, A: (k*511 + 7) % api.MaxCode} }),
		steps(func(k int) int { return 0 }),
		steps(func(k int) int { return last }),
		steps(func(k int) int { return k }),
		steps(func(k int) int { return last - k }),
		steps(func(k int) int { return k + 2 }),
		steps(func(k int) int { return k - 2 }),
		steps(func(k int) int { return k / 2 }),
		steps(func(k int) int { return 2 * k }),
		// Loops in a row that are entered at both ends and in the middle.
		steps(func(k int) int { return (k + last - 1) % last }),
		steps(func(k int) int { return (k + last/2) % last }),
	} {
		check(t, f)
	}
}

// chance is a generator without a pattern that the functions have.
type chance uint64

// below returns a number from 0 to n - 1.
func (c *chance) below(n int) int {
	*c = *c*6364136223846793005 + 1442695040888963407
	return int(uint64(*c) >> 33 % uint64(n))
}

// randomFunc returns a right function, in which one of so many instructions is there for control.
func randomFunc(c *chance, length, oneOf int) api.Func {
	f := api.Func{Slots: []api.Slot{{Size: 8, Align: 8}, {Size: 8, Align: 8}}, Code: make([]api.Instr, length)}
	for k := range f.Code {
		f.Code[k] = [...]api.Instr{{Op: api.Move, A: 1}, {Op: api.Load, A: 3, B: 1}, {Op: api.Call}, {Op: api.Const, A: 5, Imm: 1}}[c.below(4)]
		if c.below(oneOf) == 0 {
			f.Code[k] = [...]api.Instr{{Op: api.Branch, B: c.below(length)}, {Op: api.Branch, B: c.below(length)}, {Op: api.Jump, A: c.below(length)}, {Op: api.Trap}}[c.below(4)]
		}
	}
	f.Code[length-1] = [...]api.Instr{{Op: api.Jump, A: c.below(length)}, {Op: api.Return}, {Op: api.Trap, Imm: 1}}[c.below(3)]
	return f
}

// branching returns a right function that has many loops: a Branch at one of so many instructions, and no other way to leave the next one out.
func branching(c *chance, length, oneOf int) api.Func {
	f := randomFunc(c, length, 1)
	for k := range length - 1 {
		f.Code[k] = api.Instr{Op: api.Out}
		if c.below(oneOf) == 0 {
			f.Code[k] = api.Instr{Op: api.Branch, B: c.below(length)}
		}
	}
	return f
}

func TestRandomFunctions(t *testing.T) {
	c := chance(14)
	for range 6000 {
		check(t, randomFunc(&c, 1+c.below(40), 1+c.below(8)))
		check(t, branching(&c, 1+c.below(30), 1+c.below(3)))
	}
	for range 4 {
		check(t, randomFunc(&c, api.MaxCode, 1+c.below(100)))
		check(t, branching(&c, api.MaxCode, 1+c.below(4)))
	}
}

// loops reports whether a way from a visited instruction leads to it again: it takes away the instructions to which no way leads any more, until there are none or all of those left have one.
func loops(f api.Func, order []int) bool {
	left := slices.Clone(order)
	for {
		led := map[int]bool{}
		for _, k := range left {
			for _, j := range flow.Next(f, k) {
				led[j] = true
			}
		}
		n := len(left)
		left = slices.DeleteFunc(left, func(k int) bool { return !led[k] })
		if len(left) == n {
			return n > 0
		}
	}
}

// checkConsequences is the section Consequences of chapter 14.
func checkConsequences(t *testing.T, f api.Func) {
	t.Helper()
	r := resultsOf(f)
	if r.order[0] != 0 {
		t.Fatalf("Order(%v) begins with %d", f, r.order[0])
	}
	var reached []int
	for k, there := range flow.Reached(f) {
		if there {
			reached = append(reached, k)
		}
	}
	if !slices.Equal(slices.Sorted(slices.Values(r.order)), reached) {
		t.Fatalf("Order(%v) is %v, but %v are reached", f, r.order, reached)
	}
	if loops(f, r.order) != (len(r.back) > 0) {
		t.Fatalf("Back(%v) is %v", f, r.back)
	}
	// A way without pairs of Back leads to greater ranks only, if each of its steps does.
	for _, k := range r.order {
		for _, j := range flow.Next(f, k) {
			if !slices.Contains(r.back, [2]int{k, j}) && r.rank[j] <= r.rank[k] {
				t.Fatalf("Back(%v) has no pair %d, %d", f, k, j)
			}
		}
	}
}

func TestConsequences(t *testing.T) {
	c := chance(15)
	for range 3000 {
		checkConsequences(t, randomFunc(&c, 1+c.below(30), 1+c.below(8)))
		checkConsequences(t, branching(&c, 1+c.below(20), 2+c.below(20)))
	}
}

// spoil makes all elements of a list, also the spare ones, one that no call returns.
func spoil[T any](l []T, x T) {
	l = l[:cap(l)]
	for i := range l {
		l[i] = x
	}
}

// Results are new memory: the results of one call do not change with those of others.
func TestNewMemory(t *testing.T) {
	c := chance(16)
	for range 300 {
		f := randomFunc(&c, 1+c.below(20), 1+c.below(4))
		want, got := modelled(f), resultsOf(f)
		other := resultsOf(f)
		spoil(got.order, -7)
		spoil(got.rank, -7)
		spoil(got.back, [2]int{-7, -7})
		spoil(got.dominators, -7)
		if !equal(other, want) || !equal(resultsOf(f), want) {
			t.Fatalf("the results for %v share memory with those of other calls", f)
		}
	}
}

// General rules R1 and R2, for functions that are not right

// wrongNumber returns a number that is often an index of an instruction, and otherwise often far from all.
func wrongNumber(c *chance, length int) int {
	if c.below(2) == 0 {
		return c.below(length + 1)
	}
	far := [...]int{math.MinInt, -1 << 32, -1<<32 + 1, -1000, -length, -1, length - 1, length, length + 1, 1 << 16, 1 << 32, 1<<32 + 1, math.MaxInt - 1, math.MaxInt}
	return far[c.below(len(far))]
}

// wrongFunc returns a function that need not be right.
func wrongFunc(c *chance) api.Func {
	n := c.below(12)
	f := api.Func{Params: c.below(20) - 5, Code: make([]api.Instr, n)}
	for k := range f.Code {
		x := api.Instr{Op: wrongNumber(c, n), A: wrongNumber(c, n), B: wrongNumber(c, n), C: wrongNumber(c, n), Imm: uint64(c.below(2))}
		if c.below(4) > 0 {
			x.Op = [...]int{api.Jump, api.Branch, api.Return, api.Trap, api.Out, api.Ops, -1}[c.below(7)]
		}
		f.Code[k] = x
	}
	return f
}

// checkWrong checks that the functions return, that their results do not depend on spare capacity, and that they name only instructions that there are.
func checkWrong(t *testing.T, f api.Func) {
	t.Helper()
	got := called(t, f)
	f.Code = slices.Clip(slices.Clone(f.Code))
	if !equal(got, resultsOf(f)) {
		t.Fatalf("the results for %v depend on spare capacity", f)
	}
	n := len(f.Code)
	if len(got.rank) != n || len(got.dominators) != n {
		t.Fatalf("Rank or Dominators of %v has not %d elements", f, n)
	}
	named := slices.Concat(got.order, got.rank, got.dominators)
	for _, pair := range got.back {
		named = append(named, pair[:]...)
	}
	for _, k := range named {
		if k < -1 || k >= n {
			t.Fatalf("the results for %v name %d", f, k)
		}
	}
}

func TestWrongFunctions(t *testing.T) {
	checkWrong(t, api.Func{})
	checkWrong(t, api.Func{Params: -1, Slots: make([]api.Slot, api.MaxSlots+1), Code: []api.Instr{}})
	checkWrong(t, api.Func{Code: make([]api.Instr, 100*api.MaxCode)})
	c := chance(17)
	for range 20000 {
		checkWrong(t, wrongFunc(&c))
	}
}
