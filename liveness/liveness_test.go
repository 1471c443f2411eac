package liveness_test

import (
	"fmt"
	"math"
	"slices"
	"strings"
	"testing"

	"spillframe/api"
	"spillframe/bitset"
	"spillframe/effect"
	"spillframe/flow"
	"spillframe/liveness"
	"spillframe/sir"
	"spillframe/sirtext"
)

// function reads a function with four slots of 8 bytes, of which semicolons end the lines.
func function(t *testing.T, code string) api.Func {
	t.Helper()
	return withSlots(t, strings.Repeat("slot 8 8;", 4), code)
}

// withSlots reads a function with the given slots.
func withSlots(t *testing.T, slots, code string) api.Func {
	t.Helper()
	p, line, e := sirtext.Parse("func 0\n" + strings.ReplaceAll(slots+code, ";", "\n"))
	if e != api.OK {
		t.Fatalf("line %d of %q has the error %d", line, slots+code, e)
	}
	return p.Funcs[0]
}

// short returns a value as text, without its end if it is very long.
func short(x any) string {
	text := fmt.Sprint(x)
	return text[:min(len(text), 3000)]
}

// roomySets returns a copy of a list of sets in which it and each set would go on in their spare capacity.
func roomySets(l [][]int) [][]int {
	r := make([][]int, len(l), len(l)+2)
	for k, set := range l {
		r[k] = append(slices.Clone(set), 9, -4, 0, 1, 2)[:len(set)]
	}
	copy(r[len(l):cap(r)], [][]int{{0, 1}, {5}})
	return r
}

// wholeSets returns a copy of all memory of a list of sets.
func wholeSets(l [][]int) [][]int {
	w := slices.Clone(l[:cap(l)])
	for k := range w {
		w[k] = slices.Clone(w[k][:cap(w[k])])
	}
	return w
}

// roomy returns a copy of f with spare capacity in which its lists would go on.
func roomy(f api.Func) api.Func {
	f.Slots = append(slices.Clone(f.Slots), api.Slot{Size: 16, Align: 16})[:len(f.Slots)]
	n := len(f.Code)
	f.Code = append(slices.Clone(f.Code), api.Instr{Op: api.Load}, api.Instr{Op: api.Branch}, api.Instr{Op: api.Return})[:n]
	return f
}

// whole returns a copy of all memory of f.
func whole(f api.Func) api.Func {
	f.Slots = slices.Clone(f.Slots[:cap(f.Slots)])
	f.Code = slices.Clone(f.Code[:cap(f.Code)])
	return f
}

// results are all that the functions return for a function and an annotation.
type results struct {
	solution, ins, step [][]int
	pressure            int
}

func resultsOf(f api.Func, l api.Live) results {
	return results{liveness.Solve(f).Out, liveness.Ins(f, l), liveness.Step(f, l).Out, liveness.Pressure(f, l)}
}

func modelled(f api.Func, l api.Live) results {
	return results{solveOf(f).Out, insOf(f, l), stepOf(f, l).Out, pressureOf(f, l)}
}

func equalResults(a, b results) bool {
	return equal(a.solution, b.solution) && equal(a.ins, b.ins) && equal(a.step, b.step) && a.pressure == b.pressure
}

// called returns the results for copies of f and l that have spare capacity, and checks that all of their memory remains as it is.
func called(t *testing.T, f api.Func, l api.Live) results {
	t.Helper()
	r, m := roomy(f), api.Live{Out: roomySets(l.Out)}
	rBefore, mBefore := whole(r), wholeSets(m.Out)
	got := resultsOf(r, m)
	if !sir.SameFunc(whole(r), rBefore) {
		t.Fatalf("the function %s is changed to %s", short(rBefore), short(whole(r)))
	}
	if !equal(wholeSets(m.Out), mBefore) {
		t.Fatalf("the annotation %s is changed to %s", short(mBefore), short(wholeSets(m.Out)))
	}
	return got
}

// checkRight checks that f is right as the only function of a program.
func checkRight(t *testing.T, f api.Func) {
	t.Helper()
	if e := sir.Check(api.Program{Funcs: []api.Func{f}}); e != api.OK {
		t.Fatalf("%s has the error %d", short(f), e)
	}
}

// check compares all results with the model.
func check(t *testing.T, f api.Func, l api.Live) {
	t.Helper()
	checkRight(t, f)
	if got, want := called(t, f, l), modelled(f, l); !equalResults(got, want) {
		t.Fatalf("the results for %s and %s are\n%s, not\n%s", short(f), short(l), short(got), short(want))
	}
}

// checkSolved compares Solve with the model, and what the other functions return for its result.
func checkSolved(t *testing.T, f api.Func) {
	t.Helper()
	check(t, f, liveness.Solve(f))
}

// P16.1, P16.2

func TestSolve(t *testing.T) {
	for code, want := range map[string][][]int{
		"store s0 r1; load r2 s0; return":                          {{0}, {}, {}}, // the example of chapter 16
		"return":                                                   {{}},
		"load r0 s0; return":                                       {{}, {}},
		"load r0 s0; load r0 s1; return":                           {{1}, {}, {}},
		"load r0 s0; load r0 s0; return":                           {{0}, {}, {}},
		"store s0 r0; return":                                      {{}, {}},
		"store s0 r0; store s0 r1; load r0 s0; return":             {{}, {0}, {}, {}},
		"store s2 r0; store s0 r0; load r0 s0; load r0 s2; return": {{2}, {0, 2}, {2}, {}, {}},
		// A Move reads before it writes.
		"store s0 r1; move s1 s0; load r2 s1; return": {{0}, {1}, {}, {}},
		"store s0 r1; move s0 s0; load r2 s0; return": {{0}, {0}, {}, {}},
		"store s0 r1; move s0 s0; return":             {{0}, {}, {}},
		"in r0; move s1 s0; move s0 s1; return":       {{0}, {1}, {}, {}},
		"in r0; move s1 s0; return":                   {{0}, {}, {}},
		// One of two ways is enough, and what one of them writes the other may still read.
		"branch r0 @2; load r0 s1; load r0 s2; return":                {{1, 2}, {2}, {}, {}},
		"branch r0 @3; store s0 r0; jump @3; load r1 s0; return":      {{0}, {0}, {0}, {}, {}},
		"branch r0 @3; store s3 r0; return; load r1 s3; return":       {{3}, {}, {}, {}, {}},
		"branch r0 @4; store s3 r0; jump @5; return; trap 1; jump @4": {{}, {}, {}, {}, {}, {}},
		"store s0 r0; branch r0 @3; return; load r1 s0; return":       {{0}, {0}, {}, {}, {}},
		"load r0 s1; branch r0 @2; load r1 s0; return":                {{0}, {0}, {}, {}},
		// Nothing is read after a Return or a Trap, also if a read comes next in the code.
		"return; load r0 s0; return":  {{}, {}, {}},
		"trap 1; load r0 s0; return":  {{}, {}, {}},
		"jump @2; load r0 s0; return": {{}, {}, {}},
		// Loops.
		"load r0 s0; jump @0":                           {{0}, {0}},
		"load r0 s0; store s0 r0; jump @0":              {{}, {0}, {0}},
		"store s0 r0; load r0 s0; jump @0":              {{0}, {}, {}},
		"jump @0":                                       {{}},
		"branch r0 @0; load r1 s2; return":              {{2}, {}, {}},
		"store s1 r0; load r1 s1; branch r0 @1; return": {{1}, {1}, {1}, {}},
		"store s1 r0; load r1 s1; branch r0 @0; return": {{1}, {}, {}, {}},
		"load r1 s1; load r2 s2; branch r0 @1; return":  {{2}, {2}, {2}, {}},
		"in r0; store s0 r1; branch r0 @4; load r1 s3; branch r2 @2; load r3 s0; return": {{3}, {0, 3}, {0, 3}, {0, 3}, {0, 3}, {}, {}},
		// A loop that only itself would keep a slot alive in.
		"in r0; branch r0 @0; store s0 r0; load r0 s0; jump @2": {{}, {}, {0}, {}, {}},
		// A call reads and writes no slot of its caller.
		"store s0 r0; call f0; load r0 s0; return": {{0}, {0}, {}, {}},
		// Instructions that are not reached have sets too.
		"return; store s0 r0; load r0 s0; return": {{}, {0}, {}, {}},
		"return; load r0 s3; jump @1":             {{}, {3}, {3}},
		"jump @2; jump @2; load r0 s2; return":    {{2}, {2}, {}, {}},
		// Numbers of registers, arguments, targets and functions are no slots.
		"copy r0 r1; out r1; arg a0 r1; add r0 r1 r2; branch r0 @5; return": {{}, {}, {}, {}, {}, {}},
	} {
		f := function(t, code)
		if got := liveness.Solve(f).Out; !equal(got, want) {
			t.Errorf("Solve of %q returned %v, not %v", code, got, want)
		}
		checkSolved(t, f)
	}
}

// control has the instructions with n targets, after which others may follow than the next one.
func control(n int) []api.Instr {
	l := []api.Instr{{Op: api.Return}}
	for to := range n {
		l = append(l, api.Instr{Op: api.Jump, A: to}, api.Instr{Op: api.Branch, B: to})
	}
	return l
}

// accesses has the instructions that read and write so many slots, and one that does neither.
func accesses(slots int) []api.Instr {
	l := []api.Instr{{Op: api.Out}}
	for s := range slots {
		l = append(l, api.Instr{Op: api.Load, B: s}, api.Instr{Op: api.Store, A: s})
		for other := range slots {
			l = append(l, api.Instr{Op: api.Move, A: s, B: other})
		}
	}
	return l
}

// eachFunc calls visit with each right function that has n instructions and so many slots, and returns how many there are.
func eachFunc(n, slots int, visit func(f api.Func)) int {
	f := api.Func{Code: make([]api.Instr, n)}
	for s := range slots {
		f.Slots = append(f.Slots, api.Slot{Size: 8, Align: 8 << s})
	}
	all := append(control(n), accesses(slots)...)
	count := 0
	var fill func(k int)
	fill = func(k int) {
		if k == n {
			count++
			visit(f)
			return
		}
		for _, x := range all {
			if k < n-1 || sir.Terminator(x.Op) {
				f.Code[k] = x
				fill(k + 1)
			}
		}
	}
	fill(0)
	return count
}

// eachAnnotation calls visit with each annotation of n sets of so many slots.
func eachAnnotation(n, slots int, visit func(l api.Live)) {
	for bits := range 1 << (n * slots) {
		l := api.Live{Out: make([][]int, n)}
		for k := range n {
			for s := range slots {
				if bits>>(k*slots+s)&1 == 1 {
					l.Out[k] = append(l.Out[k], s)
				}
			}
		}
		visit(l)
	}
}

// within reports whether each set of a is contained in that of b.
func within(a, b [][]int) bool {
	for k := range a {
		if !bitset.Within(a[k], b[k]) {
			return false
		}
	}
	return true
}

// The words of P16.2 for all short functions: of all annotations, those that solve the equations of P16.1 are looked at.
func TestSolveIsLeast(t *testing.T) {
	for _, c := range [][2]int{{1, 2}, {2, 2}, {3, 2}, {2, 3}, {4, 1}} {
		n, slots := c[0], c[1]
		eachFunc(n, slots, func(f api.Func) {
			least := liveness.Solve(f).Out
			found := false
			eachAnnotation(n, slots, func(l api.Live) {
				if !equal(stepOf(f, l).Out, l.Out) {
					return
				}
				found = found || equal(l.Out, least)
				if !within(least, l.Out) {
					t.Fatalf("Solve(%v) returned %v, of which %v does not contain each set", f, least, l.Out)
				}
			})
			if !found {
				t.Fatalf("Solve(%v) returned %v, which is no solution", f, least)
			}
		})
	}
}

func TestSolveEachShortFunction(t *testing.T) {
	for _, c := range []struct{ n, slots, count int }{
		{1, 2, 2}, {2, 2, 14 * 3}, {3, 2, 16 * 16 * 4}, {4, 2, 18 * 18 * 18 * 5}, {3, 3, 23 * 23 * 4}, {5, 1, 15 * 15 * 15 * 15 * 6},
	} {
		count := eachFunc(c.n, c.slots, func(f api.Func) {
			if got, want := liveness.Solve(f).Out, solveOf(f).Out; !equal(got, want) {
				t.Fatalf("Solve(%v) returned %v, not %v", f, got, want)
			}
		})
		if count != c.count {
			t.Errorf("%d functions of %d instructions and %d slots were checked, not %d", count, c.n, c.slots, c.count)
		}
	}
}

// P16.3

func TestInsAndStep(t *testing.T) {
	for _, c := range []struct {
		code          string
		l, ins, after [][]int
	}{
		{"return", [][]int{{}}, [][]int{{}}, [][]int{{}}},
		{"return", [][]int{{0, 3}}, [][]int{{0, 3}}, [][]int{{}}},
		{"jump @0", [][]int{{0, 3}}, [][]int{{0, 3}}, [][]int{{0, 3}}},
		{"store s0 r1; load r2 s0; return", [][]int{{0}, {}, {}}, [][]int{{}, {0}, {}}, [][]int{{0}, {}, {}}},
		{"store s0 r1; load r2 s0; return", [][]int{{}, {}, {}}, [][]int{{}, {0}, {}}, [][]int{{0}, {}, {}}},
		{"store s0 r1; load r2 s0; return", [][]int{{0, 1}, {1, 2}, {0, 3}}, [][]int{{1}, {0, 1, 2}, {0, 3}}, [][]int{{0, 1, 2}, {0, 3}, {}}},
		{"move s0 s1; move s2 s2; return", [][]int{{0, 3}, {2, 3}, {0}}, [][]int{{1, 3}, {2, 3}, {0}}, [][]int{{2, 3}, {0}, {}}},
		{"branch r0 @2; load r0 s1; load r0 s2; return", [][]int{{}, {0}, {3}, {}}, [][]int{{}, {0, 1}, {2, 3}, {}}, [][]int{{0, 1, 2, 3}, {2, 3}, {}, {}}},
		// Both ways have slots in common, and a Branch to the next instruction has one.
		{"branch r0 @2; load r0 s1; load r0 s2; return", [][]int{{}, {2, 3}, {1, 3}, {}}, [][]int{{}, {1, 2, 3}, {1, 2, 3}, {}}, [][]int{{1, 2, 3}, {1, 2, 3}, {}, {}}},
		{"branch r0 @1; store s0 r0; return", [][]int{{0}, {0, 1}, {2}}, [][]int{{0}, {1}, {2}}, [][]int{{1}, {2}, {}}},
		// A step goes back by one instruction only, through the sets as they were.
		{"in r0; in r1; load r0 s0; return", [][]int{{}, {}, {}, {}}, [][]int{{}, {}, {0}, {}}, [][]int{{}, {0}, {}, {}}},
		{"branch r0 @0; branch r1 @0; return", [][]int{{1}, {2}, {3}}, [][]int{{1}, {2}, {3}}, [][]int{{1, 2}, {1, 3}, {}}},
		// What is not read again is lost, also where nothing leads.
		{"in r0; return; jump @1", [][]int{{1}, {}, {2}}, [][]int{{1}, {}, {2}}, [][]int{{}, {}, {}}},
	} {
		f, l := function(t, c.code), api.Live{Out: c.l}
		if got := liveness.Ins(f, l); !equal(got, c.ins) {
			t.Errorf("Ins of %q and %v returned %v, not %v", c.code, c.l, got, c.ins)
		}
		if got := liveness.Step(f, l).Out; !equal(got, c.after) {
			t.Errorf("Step of %q and %v returned %v, not %v", c.code, c.l, got, c.after)
		}
		check(t, f, l)
	}
}

func TestEachAnnotation(t *testing.T) {
	for _, c := range [][2]int{{1, 3}, {2, 2}, {3, 2}, {2, 3}, {4, 1}} {
		n, slots := c[0], c[1]
		eachFunc(n, slots, func(f api.Func) {
			eachAnnotation(n, slots, func(l api.Live) {
				check(t, f, l)
			})
		})
	}
}

// P16.4

func TestSame(t *testing.T) {
	first, second := []int{0, 2}, []int{0, 2}
	for _, c := range []struct {
		a, b [][]int
		want bool
	}{
		{nil, nil, true},
		{nil, [][]int{}, true},
		{[][]int{nil}, [][]int{{}}, true},
		{[][]int{{}, nil, {1}}, [][]int{nil, {}, {1}}, true},
		{[][]int{first, {1}}, [][]int{second, {1}}, true},
		{[][]int{first, first}, [][]int{second, first}, true},
		{[][]int{{math.MinInt}, {math.MaxInt}}, [][]int{{math.MinInt}, {math.MaxInt}}, true},
		{nil, [][]int{{}}, false},
		{nil, [][]int{nil}, false},
		{[][]int{{1}}, [][]int{{1}, {}}, false},
		{[][]int{{1}, {}}, [][]int{{1}, {}, nil}, false},
		{[][]int{{1}}, [][]int{{}}, false},
		{[][]int{{1}}, [][]int{nil}, false},
		{[][]int{{1}}, [][]int{{2}}, false},
		{[][]int{{1}, {}}, [][]int{{}, {1}}, false},
		{[][]int{{1, 2}}, [][]int{{1}, {2}}, false},
		{[][]int{{1, 2}, {3}}, [][]int{{1}, {2, 3}}, false},
		{[][]int{{1, 2}}, [][]int{{1}}, false},
		{[][]int{{1, 2}}, [][]int{{1, 3}}, false},
		{[][]int{{1, 2}}, [][]int{{0, 2}}, false},
		{[][]int{{1, 2}}, [][]int{{2, 1}}, false},
		{[][]int{{1}}, [][]int{{1, 1}}, false},
		{[][]int{{1}, {2}, {3}}, [][]int{{1}, {2}, {4}}, false},
		{[][]int{{0}}, [][]int{{1 << 32}}, false},
		{[][]int{{math.MinInt}}, [][]int{{math.MaxInt}}, false},
	} {
		for _, l := range [][2][][]int{{c.a, c.b}, {c.b, c.a}} {
			a, b := api.Live{Out: roomySets(l[0])}, api.Live{Out: roomySets(l[1])}
			aBefore, bBefore := wholeSets(a.Out), wholeSets(b.Out)
			if liveness.Same(a, b) != c.want {
				t.Errorf("Same(%v, %v) is not %t", l[0], l[1], c.want)
			}
			if liveness.Same(api.Live{Out: l[0]}, api.Live{Out: l[1]}) != c.want {
				t.Errorf("Same(%v, %v) without spare capacity is not %t", l[0], l[1], c.want)
			}
			if !equal(wholeSets(a.Out), aBefore) || !equal(wholeSets(b.Out), bBefore) {
				t.Errorf("Same(%v, %v) changed its arguments", l[0], l[1])
			}
		}
	}
}

// Annotations of many sets that differ in one place only, if at all.
func TestSameOfLongest(t *testing.T) {
	c := chance(1)
	f := randomFunc(&c, api.MaxCode, 20, 9)
	a := api.Live{Out: randomSets(&c, f, 3)}
	for k := range a.Out {
		b := api.Live{Out: roomySets(a.Out)}
		if !liveness.Same(a, b) || !liveness.Same(b, a) {
			t.Fatalf("an annotation and its copy are not the same at %d", k)
		}
		b.Out[k] = append(b.Out[k], api.MaxSlots)
		if liveness.Same(a, b) || liveness.Same(b, a) {
			t.Fatalf("an annotation is the same with another slot in set %d", k)
		}
		b.Out[k] = a.Out[k]
		if n := len(a.Out[k]); n > 0 {
			b.Out[k] = a.Out[k][:n-1]
			if liveness.Same(a, b) || liveness.Same(b, a) {
				t.Fatalf("an annotation is the same without a slot of set %d", k)
			}
		}
	}
}

func TestPressure(t *testing.T) {
	slots := "slot 1 1;slot 2 2;slot 4 4;slot 8 8;slot 16 16;slot 16 32;"
	for _, c := range []struct {
		code string
		l    [][]int
		want int
	}{
		{"return", [][]int{{}}, 0},
		{"return", [][]int{{3}}, 8},
		{"return", [][]int{{0, 1, 2, 3, 4, 5}}, 47},
		// What an instruction defines is not in its set of Ins, and what it uses is.
		{"store s4 r0; return", [][]int{{4}, {}}, 0},
		{"store s4 r0; return", [][]int{{4}, {0}}, 1},
		{"store s4 r0; return", [][]int{{1, 4}, {0}}, 2},
		{"load r0 s4; return", [][]int{{}, {}}, 16},
		{"load r0 s4; return", [][]int{{1, 4}, {2}}, 18},
		{"move s4 s5; return", [][]int{{4}, {}}, 16},
		{"move s4 s5; return", [][]int{{4, 5}, {}}, 16},
		{"move s4 s4; return", [][]int{{}, {}}, 16},
		// The greatest sum counts, wherever it is, and not the greatest number of slots.
		{"in r0; in r1; in r2; return", [][]int{{4}, {0, 1, 2}, {3}, {1}}, 16},
		{"in r0; in r1; in r2; return", [][]int{{1}, {0, 1, 2}, {0}, {1}}, 7},
		{"in r0; in r1; in r2; return", [][]int{{1}, {0, 1, 2}, {0}, {4, 5}}, 32},
		{"in r0; return; trap 1", [][]int{{1}, {0, 1, 2}, {3}}, 8}, // not reached
	} {
		f, l := withSlots(t, slots, c.code), api.Live{Out: c.l}
		if got := liveness.Pressure(f, l); got != c.want {
			t.Errorf("Pressure of %q and %v returned %d, not %d", c.code, c.l, got, c.want)
		}
		check(t, f, l)
	}
	// All slots that a function can have.
	f := api.Func{Slots: slices.Repeat([]api.Slot{{Size: 16, Align: 16}}, api.MaxSlots), Code: []api.Instr{{Op: api.Return}}}
	all := make([]int, api.MaxSlots)
	for s := range all {
		all[s] = s
	}
	if got := liveness.Pressure(f, api.Live{Out: [][]int{all}}); got != 16*api.MaxSlots {
		t.Errorf("Pressure of all slots returned %d", got)
	}
	if got := liveness.Pressure(api.Func{Code: f.Code}, api.Live{Out: [][]int{{}}}); got != 0 {
		t.Errorf("Pressure without slots returned %d", got)
	}
}

// All promises

// slotsOf returns so many slots of all sizes; those whose indices differ by a multiple of five have the same size.
func slotsOf(n int) []api.Slot {
	var l []api.Slot
	for s := range n {
		l = append(l, api.Slot{Size: 1 << (s % 5), Align: 16})
	}
	return l
}

// each returns the longest function with so many slots, with the instruction at(k) at each index k but the last.
func each(slots int, at func(k int) api.Instr) api.Func {
	f := api.Func{Slots: slotsOf(slots), Code: make([]api.Instr, api.MaxCode)}
	for k := range f.Code {
		f.Code[k] = at(k)
	}
	f.Code[api.MaxCode-1] = api.Instr{Op: api.Return}
	return f
}

// The longest functions with the most slots: what is read at one end is live at the other, on long ways forwards and backwards.
func TestLongestFunctions(t *testing.T) {
	const n, last = api.MaxSlots, api.MaxCode - 1
	for i, at := range []func(k int) api.Instr{
		func(k int) api.Instr { return api.Instr{Op: api.Out} },
		func(k int) api.Instr { return api.Instr{Op: api.Load, B: k % n} },
		func(k int) api.Instr { return api.Instr{Op: api.Load, B: (last - k) % n} },
		func(k int) api.Instr { return api.Instr{Op: api.Store, A: k % n} },
		func(k int) api.Instr { return api.Instr{Op: api.Move, A: k % (n - 2), B: (k + 5) % (n - 2)} },
		func(k int) api.Instr { return api.Instr{Op: api.Move, A: (k + 5) % (n - 2), B: k % (n - 2)} },
		// Stores first, then loads, in the same order and in the opposite one.
		func(k int) api.Instr {
			return [...]api.Instr{{Op: api.Store, A: k % n}, {Op: api.Load, B: k % n}}[k/n]
		},
		func(k int) api.Instr {
			return [...]api.Instr{{Op: api.Store, A: k % n}, {Op: api.Load, B: (last - k) % n}}[k/n]
		},
		// Each second instruction leads back by one, two or three, or forwards.
		func(k int) api.Instr {
			return [...]api.Instr{{Op: api.Load, B: k / 2 % n}, {Op: api.Branch, B: k - 1}}[k%2]
		},
		func(k int) api.Instr {
			return [...]api.Instr{{Op: api.Branch, B: max(0, k-2)}, {Op: api.Load, B: k / 2 % n}}[k%2]
		},
		func(k int) api.Instr {
			return [...]api.Instr{{Op: api.Load, B: k / 2 % n}, {Op: api.Branch, B: max(0, k-3)}}[k%2]
		},
		func(k int) api.Instr {
			return [...]api.Instr{{Op: api.Load, B: k / 2 % n}, {Op: api.Branch, B: last - k}}[k%2]
		},
		func(k int) api.Instr {
			return [...]api.Instr{{Op: api.Store, A: k / 2 % n}, {Op: api.Branch, B: k / 2}}[k%2]
		},
		// Jumps that lead through all of the code backwards, and here and there.
		func(k int) api.Instr {
			return [...]api.Instr{{Op: api.Load, B: k / 2 % n}, {Op: api.Jump, A: (k + last - 3) % last}}[k%2]
		},
		func(k int) api.Instr {
			return [...]api.Instr{{Op: api.Load, B: k / 2 % n}, {Op: api.Jump, A: (k*510 + 14) % last}}[k%2]
		},
	} {
		f := each(n, at)
		f.Code[0] = api.Instr{Op: api.Load, B: n - 1}
		checkSolved(t, f)
		f.Code[last] = api.Instr{Op: api.Jump, A: i}
		checkSolved(t, f)
	}
}

// chance is a generator without a pattern that the functions have.
type chance uint64

// below returns a number from 0 to n - 1.
func (c *chance) below(n int) int {
	*c = *c*6364136223846793005 + 1442695040888963407
	return int(uint64(*c) >> 33 % uint64(n))
}

// randomFunc returns a right function, in which one of so many instructions is there for control.
func randomFunc(c *chance, length, slots, oneOf int) api.Func {
	f := api.Func{Slots: slotsOf(slots), Code: make([]api.Instr, length)}
	for k := range f.Code {
		s := c.below(slots)
		other := s%5 + 5*c.below((slots-s%5+4)/5) // a slot of the same size
		f.Code[k] = [...]api.Instr{{Op: api.Load, A: c.below(8), B: s}, {Op: api.Store, A: s, B: c.below(8)}, {Op: api.Move, A: s, B: other}, {Op: api.Call}}[c.below(4)]
		if c.below(oneOf) == 0 {
			f.Code[k] = [...]api.Instr{{Op: api.Branch, B: c.below(length)}, {Op: api.Branch, B: c.below(length)}, {Op: api.Jump, A: c.below(length)}, {Op: api.Trap}}[c.below(4)]
		}
	}
	f.Code[length-1] = [...]api.Instr{{Op: api.Jump, A: c.below(length)}, {Op: api.Return}, {Op: api.Trap, Imm: 1}}[c.below(3)]
	return f
}

// branching returns a function like randomFunc in which control goes on to every instruction.
func branching(c *chance, length, slots, oneOf int) api.Func {
	f := randomFunc(c, length, slots, oneOf)
	for k := range length - 1 {
		if sir.Terminator(f.Code[k].Op) {
			f.Code[k] = api.Instr{Op: api.Branch, B: c.below(length)}
		}
	}
	return f
}

// randomSets returns sets for the instructions of f, each with one of so many slots.
func randomSets(c *chance, f api.Func, oneOf int) [][]int {
	sets := make([][]int, len(f.Code))
	for k := range sets {
		for s := range f.Slots {
			if c.below(oneOf) == 0 {
				sets[k] = append(sets[k], s)
			}
		}
	}
	return sets
}

func TestRandomFunctions(t *testing.T) {
	c := chance(16)
	for range 4000 {
		for _, f := range []api.Func{
			randomFunc(&c, 1+c.below(40), 1+c.below(12), 1+c.below(8)),
			branching(&c, 1+c.below(30), 1+c.below(12), 1+c.below(8)),
		} {
			checkSolved(t, f)
			check(t, f, api.Live{Out: randomSets(&c, f, 1+c.below(6))})
		}
	}
	for range 4 {
		for _, f := range []api.Func{
			randomFunc(&c, api.MaxCode, api.MaxSlots, 1+c.below(100)),
			branching(&c, api.MaxCode, api.MaxSlots, 1+c.below(20)),
		} {
			checkSolved(t, f)
			check(t, f, api.Live{Out: randomSets(&c, f, 1+c.below(30))})
		}
	}
}

// checkConsequences is the section Consequences of chapter 16, and P16.1 in its words.
func checkConsequences(t *testing.T, f api.Func) {
	t.Helper()
	l := liveness.Solve(f)
	if len(l.Out) != len(f.Code) {
		t.Fatalf("Solve(%v) has %d sets", f, len(l.Out))
	}
	for k := range f.Code {
		if !bitset.Check(l.Out[k]) {
			t.Fatalf("%v, which Solve(%v) returned, is no set", l.Out[k], f)
		}
		var union []int
		for _, j := range flow.Next(f, k) {
			union = bitset.Union(union, effect.In(f.Code[j], l.Out[j]))
		}
		if !slices.Equal(l.Out[k], union) {
			t.Fatalf("Solve(%v) has the set %v of %d, for which the equations give %v", f, l.Out[k], k, union)
		}
		for s := range f.Slots {
			if slices.Contains(l.Out[k], s) != readAfter(f, k, s) {
				t.Fatalf("Solve(%v) has the set %v of %d, which is wrong about slot %d", f, l.Out[k], k, s)
			}
		}
	}
	if !liveness.Same(liveness.Step(f, l), l) {
		t.Fatalf("Step of Solve(%v) is not the same", f)
	}
	repeated := api.Live{Out: make([][]int, len(f.Code))}
	for range f.Code { // a way to what is read has no more instructions
		repeated = liveness.Step(f, repeated)
	}
	if !liveness.Same(repeated, l) {
		t.Fatalf("repeating Step of %v leads to %v, not to %v", f, repeated, l)
	}
}

func TestConsequences(t *testing.T) {
	c := chance(17)
	for range 1500 {
		checkConsequences(t, randomFunc(&c, 1+c.below(30), 1+c.below(8), 1+c.below(8)))
		checkConsequences(t, branching(&c, 1+c.below(20), 1+c.below(8), 1+c.below(8)))
	}
}

// spoil makes all elements of a set, also the spare ones, one that no call returns.
func spoil(set []int) {
	set = set[:cap(set)]
	for i := range set {
		set[i] = -7
	}
}

// Results are new memory: overwriting one set of a result changes no other one, no argument, and no result of another call.
func TestNewMemory(t *testing.T) {
	c := chance(18)
	for range 300 {
		f := randomFunc(&c, 1+c.below(12), 1+c.below(8), 1+c.below(4))
		l := api.Live{Out: randomSets(&c, f, 1+c.below(4))}
		want, got, other := modelled(f, l), resultsOf(f, l), resultsOf(f, l)
		before := wholeSets(l.Out)
		for _, sets := range [][2][][]int{{got.solution, want.solution}, {got.ins, want.ins}, {got.step, want.step}} {
			for k := range sets[0] {
				if !equal(sets[0][k:], sets[1][k:]) {
					t.Fatalf("the sets of a result for %v and %v share memory: %v is now %v", f, l, sets[1], sets[0])
				}
				spoil(sets[0][k])
				sets[0][k] = []int{-7}
			}
		}
		if !equal(wholeSets(l.Out), before) {
			t.Fatalf("the results for %v and %v share memory with the annotation", f, before)
		}
		if !equalResults(other, want) || !equalResults(resultsOf(f, l), want) {
			t.Fatalf("the results for %v and %v share memory with those of other calls", f, l)
		}
	}
}

// General rules R1 and R2, for functions that are not right and annotations that do not belong to them

// wrongNumber returns a number that is often one from 0 to n, and otherwise often far from all.
func wrongNumber(c *chance, n int) int {
	if c.below(2) == 0 {
		return c.below(n + 1)
	}
	far := [...]int{math.MinInt, -1 << 32, -1<<32 + 1, -1000, -n, -1, n - 1, n, n + 1, 63, 64, api.MaxSlots - 1, api.MaxSlots, 1 << 16, 1 << 32, 1<<32 + 1, math.MaxInt - 1, math.MaxInt}
	return far[c.below(len(far))]
}

// wrongFunc returns a function that need not be right.
func wrongFunc(c *chance) api.Func {
	n, slots := c.below(12), c.below(6)
	f := api.Func{Params: c.below(20) - 5, Code: make([]api.Instr, n)}
	for range slots {
		f.Slots = append(f.Slots, api.Slot{Size: wrongNumber(c, 16), Align: wrongNumber(c, 16)})
	}
	for k := range f.Code {
		most := [...]int{n, slots}[c.below(2)]
		x := api.Instr{Op: wrongNumber(c, n), A: wrongNumber(c, most), B: wrongNumber(c, most), C: wrongNumber(c, n), Imm: uint64(c.below(2))}
		if c.below(4) > 0 {
			x.Op = [...]int{api.Jump, api.Branch, api.Return, api.Load, api.Store, api.Move, api.Out, api.Ops, -1}[c.below(9)]
		}
		f.Code[k] = x
	}
	return f
}

// wrongSets returns lists that need be no sets, and no slots of the function with so many instructions and slots.
func wrongSets(c *chance, n, slots int) [][]int {
	sets := make([][]int, max(0, n+c.below(5)-2))
	for k := range sets {
		for range c.below(6) {
			sets[k] = append(sets[k], wrongNumber(c, slots))
		}
	}
	return sets
}

// checkWrong checks that the functions return, that Solve returns sets, and that the results do not depend on spare capacity.
func checkWrong(t *testing.T, f api.Func, l api.Live) {
	t.Helper()
	got := called(t, f, l)
	for _, set := range got.solution {
		if !bitset.Check(set) { // the sets cannot become longer than those of right functions
			t.Fatalf("Solve(%s) has the list %s, which is no set", short(f), short(set))
		}
	}
	f.Slots, f.Code = slices.Clip(slices.Clone(f.Slots)), slices.Clip(slices.Clone(f.Code))
	m := api.Live{Out: slices.Clip(slices.Clone(l.Out))}
	for k, set := range m.Out {
		m.Out[k] = slices.Clip(slices.Clone(set))
	}
	if !equalResults(got, resultsOf(f, m)) {
		t.Fatalf("the results for %s and %s depend on spare capacity", short(f), short(l))
	}
}

func TestWrongArguments(t *testing.T) {
	many := slices.Repeat([]api.Slot{{Size: 8, Align: 8}}, 100*api.MaxSlots)
	huge := slices.Repeat([]api.Slot{{Size: math.MaxInt, Align: 8}}, api.MaxSlots)
	loads := make([]api.Instr, 2*api.MaxSlots)
	for k := range loads {
		loads[k] = api.Instr{Op: api.Load, B: k}
	}
	for _, f := range []api.Func{
		{},
		{Params: -1, Slots: many, Code: []api.Instr{}},
		{Code: make([]api.Instr, 100*api.MaxCode)},
		{Code: loads},
		{Slots: many, Code: loads},
		{Slots: huge, Code: loads},
	} {
		for _, l := range []api.Live{{}, {Out: [][]int{}}, {Out: [][]int{nil, {0, 1, 2}, {-1, api.MaxSlots}}}, {Out: make([][]int, 5*api.MaxCode)}} {
			checkWrong(t, f, l)
		}
	}
	c := chance(19)
	for range 20000 {
		f := wrongFunc(&c)
		checkWrong(t, f, api.Live{Out: wrongSets(&c, len(f.Code), len(f.Slots))})
	}
}
