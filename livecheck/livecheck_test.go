package livecheck_test

import (
	"fmt"
	"math"
	"slices"
	"strings"
	"testing"

	"spillframe/api"
	"spillframe/bitset"
	"spillframe/effect"
	"spillframe/flow"
	"spillframe/livecheck"
	"spillframe/liveness"
	"spillframe/sir"
	"spillframe/sirtext"
)

// function reads a function with four slots of 8 bytes, of which semicolons end the lines.
func function(t *testing.T, code string) api.Func {
	t.Helper()
	text := strings.Repeat("slot 8 8;", 4) + code
	p, line, e := sirtext.Parse("func 0\n" + strings.ReplaceAll(text, ";", "\n"))
	if e != api.OK {
		t.Fatalf("line %d of %q has the error %d", line, text, e)
	}
	return p.Funcs[0]
}

// short returns a value as text, without its end if it is very long.
func short(x any) string {
	text := fmt.Sprint(x)
	return text[:min(len(text), 3000)]
}

// roomySets returns a copy of a list of sets in which it and each set would go on in their spare capacity.
func roomySets(l [][]int) [][]int {
	r := make([][]int, len(l), len(l)+2)
	for k, set := range l {
		r[k] = append(slices.Clone(set), 9, -4, 0, 1, 2)[:len(set)]
	}
	copy(r[len(l):cap(r)], [][]int{{0, 1}, {5}})
	return r
}

// wholeSets returns a copy of all memory of a list of sets.
func wholeSets(l [][]int) [][]int {
	w := slices.Clone(l[:cap(l)])
	for k := range w {
		w[k] = slices.Clone(w[k][:cap(w[k])])
	}
	return w
}

// roomy returns a copy of f with spare capacity in which its lists would go on.
func roomy(f api.Func) api.Func {
	f.Slots = append(slices.Clone(f.Slots), api.Slot{Size: 16, Align: 16})[:len(f.Slots)]
	n := len(f.Code)
	f.Code = append(slices.Clone(f.Code), api.Instr{Op: api.Load}, api.Instr{Op: api.Branch}, api.Instr{Op: api.Return})[:n]
	return f
}

// whole returns a copy of all memory of f.
func whole(f api.Func) api.Func {
	f.Slots = slices.Clone(f.Slots[:cap(f.Slots)])
	f.Code = slices.Clone(f.Code[:cap(f.Code)])
	return f
}

// results are all that the functions return for a function and an annotation.
type results struct {
	e            api.Errno
	instr, first int
	found        bool
	slack        int
}

func resultsOf(f api.Func, l api.Live) results {
	instr, first, found := livecheck.First(f, l)
	return results{livecheck.Check(f, l), instr, first, found, livecheck.Slack(f, l)}
}

func modelled(f api.Func, l api.Live) results {
	instr, first, found := firstOf(f, l)
	return results{checkOf(f, l), instr, first, found, slackOf(f, l)}
}

// called returns the results for copies of f and l that have spare capacity, and checks that all of their memory remains as it is.
func called(t *testing.T, f api.Func, l api.Live) results {
	t.Helper()
	r, m := roomy(f), api.Live{Out: roomySets(l.Out)}
	rBefore, mBefore := whole(r), wholeSets(m.Out)
	got := resultsOf(r, m)
	if !sir.SameFunc(whole(r), rBefore) {
		t.Fatalf("the function %s is changed to %s", short(rBefore), short(whole(r)))
	}
	if !equal(wholeSets(m.Out), mBefore) {
		t.Fatalf("the annotation %s is changed to %s", short(mBefore), short(wholeSets(m.Out)))
	}
	return got
}

// checkRight checks that f is right as the only function of a program.
func checkRight(t *testing.T, f api.Func) {
	t.Helper()
	if e := sir.Check(api.Program{Funcs: []api.Func{f}}); e != api.OK {
		t.Fatalf("%s has the error %d", short(f), e)
	}
}

// check compares all results for a right function with the model, and returns them.
func check(t *testing.T, f api.Func, sets [][]int) results {
	t.Helper()
	checkRight(t, f)
	l := api.Live{Out: sets}
	got, want := called(t, f, l), modelled(f, l)
	if got != want {
		t.Fatalf("the results for %s and %s are %v, not %v", short(f), short(l), got, want)
	}
	return got
}

// accepted, refused and foreign are the results for annotations in which nothing is missing, in which slot s is missing in the set of instruction k first, and which do not belong to the function.
func accepted(slack int) results {
	return results{slack: slack}
}

func refused(k, s int) results {
	return results{e: api.ErrLive, instr: k, first: s, found: true}
}

var foreign = results{e: api.ErrLive}

// example is one annotation of a function, and what the functions return for it.
type example struct {
	code string
	sets [][]int
	want results
}

func checkExamples(t *testing.T, l []example) {
	t.Helper()
	for _, x := range l {
		f := function(t, x.code)
		if got := resultsOf(f, api.Live{Out: x.sets}); got != x.want {
			t.Errorf("the results for %q and %v are %v, not %v", x.code, x.sets, got, x.want)
		}
		check(t, f, x.sets)
	}
}

// P17.1, P17.2, P17.3

func TestStraightCode(t *testing.T) {
	checkExamples(t, []example{
		// The examples of chapter 17.
		{"store s0 r1; load r2 s0; return", [][]int{{0}, {}, {}}, accepted(0)},
		{"store s0 r1; load r2 s0; return", [][]int{{0}, {0}, {0}}, accepted(1)},
		{"store s0 r1; load r2 s0; return", [][]int{{}, {}, {}}, refused(0, 0)},
		// Without Next nothing is asked for.
		{"return", [][]int{{}}, accepted(0)},
		{"return", [][]int{{0, 1, 2, 3}}, accepted(4)},
		{"trap 1", [][]int{{1, 3}}, accepted(2)},
		{"load r2 s0; return", [][]int{{}, {}}, accepted(0)},
		{"load r2 s0; return", [][]int{{0, 1}, {}}, accepted(2)},
		{"load r2 s0; return", [][]int{{0, 1}, {1}}, accepted(2)},
		{"load r2 s0; return", [][]int{{0}, {1}}, refused(0, 1)},
		// The first instruction counts, whatever slot it is, and then the first slot.
		{"in r0; load r2 s3; load r2 s0; return", [][]int{{}, {}, {}, {}}, refused(0, 3)},
		{"in r0; load r2 s3; load r2 s0; return", [][]int{{}, {0}, {}, {}}, refused(0, 0)},
		{"in r0; load r2 s3; load r2 s0; return", [][]int{{0}, {0}, {}, {}}, refused(0, 3)},
		{"in r0; load r2 s3; load r2 s0; return", [][]int{{3}, {0}, {}, {}}, refused(0, 0)},
		{"in r0; load r2 s3; load r2 s0; return", [][]int{{0, 3}, {}, {}, {}}, refused(1, 0)},
		{"in r0; load r2 s3; load r2 s0; return", [][]int{{0, 3}, {0}, {}, {}}, accepted(0)},
		{"in r0; load r2 s3; load r2 s0; return", [][]int{{0, 1, 3}, {0, 1}, {}, {1, 2}}, refused(2, 1)},
		{"in r0; in r1; return", [][]int{{1}, {2}, {3}}, refused(0, 2)},
		{"in r0; in r1; return", [][]int{{1, 2}, {2}, {3}}, refused(1, 3)},
		// A set may lack what its own instruction reads: the slot is needed before it only.
		{"in r0; load r2 s3; return", [][]int{{3}, {}, {}}, accepted(0)},
		// What an instruction defines is not asked for before it, unless it uses it too.
		{"in r0; store s1 r0; return", [][]int{{}, {1}, {}}, accepted(1)},
		{"in r0; store s1 r0; return", [][]int{{}, {1}, {1}}, accepted(1)},
		{"in r0; store s1 r0; return", [][]int{{1}, {1}, {1}}, accepted(2)},
		{"in r0; store s1 r0; return", [][]int{{}, {1, 2}, {1}}, refused(0, 2)},
		{"in r0; move s1 s2; return", [][]int{{}, {}, {}}, refused(0, 2)},
		{"in r0; move s1 s2; return", [][]int{{1}, {1}, {}}, refused(0, 2)},
		{"in r0; move s1 s2; return", [][]int{{2}, {1}, {}}, accepted(1)},
		{"in r0; move s2 s1; return", [][]int{{2}, {2}, {}}, refused(0, 1)},
		{"in r0; move s2 s2; return", [][]int{{}, {2}, {}}, refused(0, 2)},
		{"in r0; move s2 s2; return", [][]int{{2}, {}, {}}, accepted(0)},
		{"in r0; move s2 s2; return", [][]int{{2}, {2}, {}}, accepted(1)},
		// A call asks for nothing, and the numbers of other operands are no slots.
		{"store s0 r0; call f0; load r0 s0; return", [][]int{{0}, {0}, {}, {}}, accepted(0)},
		{"store s0 r0; call f0; load r0 s0; return", [][]int{{0}, {}, {}, {}}, refused(1, 0)},
		{"in r3; copy r0 r1; out r1; arg a0 r1; add r0 r1 r2; return", [][]int{{}, {}, {}, {}, {}, {}}, accepted(0)},
	})
}

func TestBranchesAndLoops(t *testing.T) {
	checkExamples(t, []example{
		// Both ways of a Branch ask for slots, of which the smallest comes first.
		{"branch r0 @2; load r0 s1; load r0 s2; return", [][]int{{1, 2}, {2}, {}, {}}, accepted(0)},
		{"branch r0 @2; load r0 s1; load r0 s2; return", [][]int{{1}, {2}, {}, {}}, refused(0, 2)},
		{"branch r0 @2; load r0 s1; load r0 s2; return", [][]int{{2}, {2}, {}, {}}, refused(0, 1)},
		{"branch r0 @2; load r0 s1; load r0 s2; return", [][]int{{}, {2}, {}, {}}, refused(0, 1)},
		{"branch r0 @2; load r0 s2; load r0 s1; return", [][]int{{}, {1}, {}, {}}, refused(0, 1)},
		{"branch r0 @3; load r0 s2; return; load r0 s1; return", [][]int{{}, {}, {}, {}, {}}, refused(0, 1)},
		{"branch r0 @3; load r0 s1; return; load r0 s2; return", [][]int{{}, {}, {}, {}, {}}, refused(0, 1)},
		{"branch r0 @3; load r0 s1; return; load r0 s2; return", [][]int{{0, 1, 2, 3}, {}, {}, {}, {}}, accepted(2)},
		{"branch r0 @3; load r0 s1; return; load r0 s1; return", [][]int{{1}, {}, {}, {}, {}}, accepted(0)},
		{"branch r0 @1; load r0 s1; return", [][]int{{1}, {}, {}}, accepted(0)},
		{"branch r0 @1; load r0 s1; return", [][]int{{}, {}, {}}, refused(0, 1)},
		// A Jump asks for what its target reads, and not for what the next instruction reads.
		{"jump @2; load r0 s1; load r0 s2; return", [][]int{{2}, {2}, {}, {}}, accepted(0)},
		{"jump @2; load r0 s1; load r0 s2; return", [][]int{{1}, {2}, {}, {}}, refused(0, 2)},
		{"jump @2; load r0 s1; load r0 s2; return", [][]int{{1, 2}, {2}, {}, {}}, accepted(1)},
		{"return; load r0 s1; return", [][]int{{}, {}, {}}, accepted(0)},
		{"trap 0; load r0 s1; return", [][]int{{}, {}, {}}, accepted(0)},
		// Instructions that are not reached have sets too.
		{"return; in r0; load r0 s1; return", [][]int{{}, {}, {}, {}}, refused(1, 1)},
		{"return; in r0; load r0 s1; return", [][]int{{}, {1}, {}, {}}, accepted(0)},
		{"return; in r0; load r0 s1; return", [][]int{{2}, {1, 3}, {0}, {}}, refused(1, 0)},
		{"return; in r0; jump @1", [][]int{{2}, {1}, {1}}, accepted(1)},
		{"return; in r0; jump @1", [][]int{{2}, {1}, {}}, refused(2, 1)},
		// Backwards.
		{"load r0 s0; jump @0", [][]int{{0}, {0}}, accepted(0)},
		{"load r0 s0; jump @0", [][]int{{0}, {}}, refused(1, 0)},
		{"load r0 s0; jump @0", [][]int{{}, {0}}, refused(0, 0)},
		{"store s0 r0; load r0 s0; jump @0", [][]int{{0}, {}, {}}, accepted(0)},
		{"store s0 r0; load r0 s0; branch r0 @1; return", [][]int{{0}, {}, {}, {}}, refused(2, 0)},
		{"store s0 r0; load r0 s0; branch r0 @1; return", [][]int{{0}, {0}, {}, {}}, refused(2, 0)},
		{"store s0 r0; load r0 s0; branch r0 @1; return", [][]int{{0}, {}, {0}, {}}, refused(1, 0)},
		{"store s0 r0; load r0 s0; branch r0 @1; return", [][]int{{0}, {0}, {0}, {}}, accepted(0)},
		{"store s0 r0; load r0 s0; branch r0 @0; return", [][]int{{0}, {0}, {}, {}}, accepted(1)},
		// Around a loop elements ask for each other, so that only all of them together could be left out.
		{"in r0; jump @0", [][]int{{2}, {2}}, accepted(0)},
		{"in r0; in r1; branch r0 @0; return", [][]int{{2}, {2}, {2}, {}}, accepted(0)},
		{"in r0; in r1; branch r0 @0; return", [][]int{{2}, {2}, {2}, {2}}, accepted(1)},
		{"in r0; in r1; branch r0 @0; return", [][]int{{2}, {}, {2}, {}}, refused(1, 2)},
		{"in r0; store s2 r0; branch r0 @0; return", [][]int{{2}, {2}, {2}, {}}, accepted(1)},
		// An instruction that follows itself asks for what its own set has, and for nothing else.
		{"jump @0", [][]int{{}}, accepted(0)},
		{"jump @0", [][]int{{0, 2, 3}}, accepted(3)},
		{"branch r0 @0; return", [][]int{{0, 1}, {}}, accepted(2)},
		{"branch r0 @0; return", [][]int{{0, 1}, {1}}, accepted(2)},
		{"branch r0 @0; return", [][]int{{0}, {1}}, refused(0, 1)},
		{"branch r0 @0; load r1 s2; return", [][]int{{2}, {}, {}}, accepted(0)},
		{"branch r0 @0; load r1 s2; return", [][]int{{0, 2}, {}, {}}, accepted(1)},
		{"branch r0 @0; load r1 s2; return", [][]int{{0}, {}, {}}, refused(0, 2)},
		{"in r0; branch r0 @1; return", [][]int{{1}, {1}, {}}, accepted(1)},
		{"in r0; branch r0 @1; return", [][]int{{}, {1}, {}}, refused(0, 1)},
		{"in r0; jump @1", [][]int{{1, 2}, {1}}, accepted(2)},
	})
}

// Annotations that do not belong to the function are refused for that reason only, whatever is missing.
func TestForeign(t *testing.T) {
	const code = "store s0 r1; load r2 s0; return"
	f := function(t, code)
	full := [][]int{{0}, {}, {}}
	var l [][][]int
	for _, sets := range [][][]int{full, {{}, {}, {}}, {{0}, {0}, {0}}} {
		l = append(l, nil, sets[:1], sets[:2], append(slices.Clone(sets), nil), append(slices.Clone(sets), []int{0}), append(slices.Clone(sets), nil, nil))
		for k := range sets {
			for _, set := range [][]int{{4}, {0, 4}, {0, 1, 2, 3, 4}, {-1}, {-1, 0}, {0, 0}, {0, 1, 1}, {1, 0}, {0, 2, 1}, {0, -1}, {4, 0}, {5}, {63}, {64}, {api.MaxSlots - 1}, {api.MaxSlots}, {0, api.MaxSlots}, {1 << 32}, {0, 1<<32 + 1}, {math.MinInt}, {math.MaxInt}, {0, math.MaxInt}, {math.MinInt, 0}} {
				l = append(l, with(sets, k, set...))
			}
		}
	}
	for _, sets := range l {
		if got := resultsOf(f, api.Live{Out: sets}); got != foreign {
			t.Errorf("the results for %q and %v are %v, not %v", code, sets, got, foreign)
		}
		check(t, f, sets)
	}
	f.Slots = append(f.Slots, api.Slot{Size: 1, Align: 1})
	if got := resultsOf(f, api.Live{Out: [][]int{{0, 4}, {4}, {4}}}); got != accepted(1) {
		t.Errorf("the results with the slot 4 are %v", got)
	}
}

// Nil and empty slices are equivalent, and a function can be without slots.
func TestEmptySets(t *testing.T) {
	for _, f := range []api.Func{{Code: []api.Instr{{Op: api.Return}}}, {Slots: []api.Slot{}, Code: []api.Instr{{Op: api.Jump}}}} {
		for _, sets := range [][][]int{{nil}, {{}}} {
			if got := check(t, f, sets); got != accepted(0) {
				t.Errorf("the results for %v and %v are %v", f, sets, got)
			}
		}
		for _, sets := range [][][]int{nil, {}, {{0}}, {nil, nil}} {
			if got := check(t, f, sets); got != foreign {
				t.Errorf("the results for %v and %v are %v", f, sets, got)
			}
		}
	}
	f := function(t, "store s0 r1; load r2 s0; return")
	if got := check(t, f, [][]int{{0}, nil, {}}); got != accepted(0) {
		t.Errorf("the results with nil are %v", got)
	}
	if got := check(t, f, [][]int{nil, nil, nil}); got != refused(0, 0) {
		t.Errorf("the results with nil only are %v", got)
	}
}

// control has the instructions with n targets, after which others may follow than the next one.
func control(n int) []api.Instr {
	l := []api.Instr{{Op: api.Return}}
	for to := range n {
		l = append(l, api.Instr{Op: api.Jump, A: to}, api.Instr{Op: api.Branch, B: to})
	}
	return l
}

// accesses has the instructions that read and write so many slots, and one that does neither.
func accesses(slots int) []api.Instr {
	l := []api.Instr{{Op: api.Out}}
	for s := range slots {
		l = append(l, api.Instr{Op: api.Load, B: s}, api.Instr{Op: api.Store, A: s})
		for other := range slots {
			l = append(l, api.Instr{Op: api.Move, A: s, B: other})
		}
	}
	return l
}

// eachFunc calls visit with each right function that has n instructions and so many slots, and returns how many there are.
func eachFunc(n, slots int, visit func(f api.Func)) int {
	f := api.Func{Slots: slices.Repeat([]api.Slot{{Size: 8, Align: 8}}, slots), Code: make([]api.Instr, n)}
	all := append(control(n), accesses(slots)...)
	count := 0
	var fill func(k int)
	fill = func(k int) {
		if k == n {
			count++
			visit(f)
			return
		}
		for _, x := range all {
			if k < n-1 || sir.Terminator(x.Op) {
				f.Code[k] = x
				fill(k + 1)
			}
		}
	}
	fill(0)
	return count
}

// annotations returns each annotation of n sets of so many slots.
func annotations(n, slots int) [][][]int {
	var l [][][]int
	for bits := range 1 << (n * slots) {
		sets := make([][]int, n)
		for k := range n {
			for s := range slots {
				if bits>>(k*slots+s)&1 == 1 {
					sets[k] = append(sets[k], s)
				}
			}
		}
		l = append(l, sets)
	}
	return l
}

func TestEachShortFunction(t *testing.T) {
	for _, c := range []struct{ n, slots, count int }{
		{1, 3, 2}, {2, 2, 14 * 3}, {3, 2, 16 * 16 * 4}, {2, 3, 21 * 3}, {4, 1, 13 * 13 * 13 * 5},
	} {
		l := annotations(c.n, c.slots)
		count := eachFunc(c.n, c.slots, func(f api.Func) {
			for _, sets := range l {
				check(t, f, sets)
			}
		})
		if count != c.count {
			t.Errorf("%d functions of %d instructions and %d slots were checked, not %d", count, c.n, c.slots, c.count)
		}
	}
}

// slackByCheck is P17.3 in the words of the chapter.
func slackByCheck(f api.Func, sets [][]int) int {
	if livecheck.Check(f, api.Live{Out: sets}) != api.OK {
		return 0
	}
	count := 0
	for k := range sets {
		for i := range sets[k] {
			if livecheck.Check(f, api.Live{Out: without(sets, k, i)}) == api.OK {
				count++
			}
		}
	}
	return count
}

// within reports whether each set of a is contained in that of b.
func within(a, b [][]int) bool {
	for k := range a {
		if !bitset.Within(a[k], b[k]) {
			return false
		}
	}
	return true
}

// joined returns the sets that join makes of those of a and b.
func joined(a, b [][]int, join func(a, b []int) []int) [][]int {
	var l [][]int
	for k := range a {
		l = append(l, join(a[k], b[k]))
	}
	return l
}

// checkAccepted checks the section Consequences for one annotation, and returns whether it is accepted.
func checkAccepted(t *testing.T, f api.Func, least api.Live, sets [][]int) bool {
	t.Helper()
	l := api.Live{Out: sets}
	accepts := livecheck.Check(f, l) == api.OK
	if !accepts && liveness.Same(liveness.Step(f, l), l) {
		t.Fatalf("the solution %v for %v is refused", sets, f)
	}
	if accepts && !within(least.Out, sets) {
		t.Fatalf("%v is accepted for %v, of which the least solution is %v", sets, f, least.Out)
	}
	return accepts
}

// checkBoth checks that the union and the intersection of two accepted annotations are accepted.
func checkBoth(t *testing.T, f api.Func, a, b [][]int) {
	t.Helper()
	for _, sets := range [][][]int{joined(a, b, bitset.Union), joined(a, b, bitset.Meet)} {
		if e := livecheck.Check(f, api.Live{Out: sets}); e != api.OK {
			t.Fatalf("%v and %v are accepted for %v, but %v has the error %d", a, b, f, sets, e)
		}
	}
}

// The section Consequences of chapter 17 for all short functions.
func TestConsequences(t *testing.T) {
	for _, c := range [][2]int{{1, 2}, {2, 2}, {3, 1}, {2, 3}} {
		l := annotations(c[0], c[1])
		eachFunc(c[0], c[1], func(f api.Func) {
			least := liveness.Solve(f)
			var good [][][]int
			for _, sets := range l {
				if checkAccepted(t, f, least, sets) {
					good = append(good, sets)
				}
				if got, want := livecheck.Slack(f, api.Live{Out: sets}), slackByCheck(f, sets); got != want {
					t.Fatalf("Slack of %v and %v returned %d, not %d", f, sets, got, want)
				}
			}
			for _, a := range good {
				for _, b := range good {
					checkBoth(t, f, a, b)
				}
			}
		})
	}
}

// chance is a generator without a pattern that the functions have.
type chance uint64

// below returns a number from 0 to n - 1.
func (c *chance) below(n int) int {
	*c = *c*6364136223846793005 + 1442695040888963407
	return int(uint64(*c) >> 33 % uint64(n))
}

// slotsOf returns so many slots of all sizes; those whose indices differ by a multiple of five have the same size.
func slotsOf(n int) []api.Slot {
	var l []api.Slot
	for s := range n {
		l = append(l, api.Slot{Size: 1 << (s % 5), Align: 16})
	}
	return l
}

// randomFunc returns a right function, in which one of so many instructions is there for control.
func randomFunc(c *chance, length, slots, oneOf int) api.Func {
	f := api.Func{Slots: slotsOf(slots), Code: make([]api.Instr, length)}
	for k := range f.Code {
		s := c.below(slots)
		other := s%5 + 5*c.below((slots-s%5+4)/5) // a slot of the same size
		f.Code[k] = [...]api.Instr{{Op: api.Load, A: c.below(8), B: s}, {Op: api.Store, A: s, B: c.below(8)}, {Op: api.Move, A: s, B: other}, {Op: api.Call}}[c.below(4)]
		if c.below(oneOf) == 0 {
			f.Code[k] = [...]api.Instr{{Op: api.Branch, B: c.below(length)}, {Op: api.Branch, B: k}, {Op: api.Jump, A: c.below(length)}, {Op: api.Trap}}[c.below(4)]
		}
		if k == length-1 {
			f.Code[k] = [...]api.Instr{{Op: api.Jump, A: c.below(length)}, {Op: api.Return}, {Op: api.Trap, Imm: 1}}[c.below(3)]
		}
	}
	return f
}

// randomSets returns sets for the instructions of f, each with one of so many slots.
func randomSets(c *chance, f api.Func, oneOf int) [][]int {
	sets := make([][]int, len(f.Code))
	for k := range sets {
		for s := range f.Slots {
			if c.below(oneOf) == 0 {
				sets[k] = append(sets[k], s)
			}
		}
	}
	return sets
}

// fewer returns the sets without one element, if there is one.
func fewer(c *chance, sets [][]int) [][]int {
	for range 10 {
		k := c.below(len(sets))
		if n := len(sets[k]); n > 0 {
			return without(sets, k, c.below(n))
		}
	}
	return sets
}

// checkRandom checks annotations of f that are accepted, those that lack one element, and any others.
func checkRandom(t *testing.T, c *chance, f api.Func, oneOf int) {
	t.Helper()
	random := randomSets(c, f, oneOf)
	check(t, f, random)
	least, greater := liveness.Solve(f).Out, filled(f, random)
	check(t, f, fewer(c, least))
	check(t, f, fewer(c, greater))
	for _, sets := range [][][]int{least, greater} {
		if got := check(t, f, sets); got.e != api.OK {
			t.Fatalf("%s has the error %d for %s", short(sets), got.e, short(f))
		}
	}
}

func TestRandomFunctions(t *testing.T) {
	c := chance(20)
	for range 6000 {
		f := randomFunc(&c, 1+c.below(30), 1+c.below(12), 1+c.below(8))
		checkRandom(t, &c, f, 1+c.below(6))
	}
	for range 300 {
		f := randomFunc(&c, 1+c.below(20), 1+c.below(8), 1+c.below(8))
		a, b := filled(f, randomSets(&c, f, 2+c.below(9))), filled(f, randomSets(&c, f, 2+c.below(9)))
		checkBoth(t, f, a, b)
		if got, want := livecheck.Slack(f, api.Live{Out: a}), slackByCheck(f, a); got != want {
			t.Fatalf("Slack of %v and %v returned %d, not %d", f, a, got, want)
		}
	}
	for range 3 {
		f := randomFunc(&c, api.MaxCode, api.MaxSlots, 1+c.below(20))
		checkRandom(t, &c, f, api.MaxSlots)
	}
}

// all returns the sets with all slots of f.
func all(f api.Func) [][]int {
	set := make([]int, len(f.Slots))
	for s := range set {
		set[s] = s
	}
	return slices.Repeat([][]int{set}, len(f.Code))
}

// longest returns the longest function with the most slots, with x at each index but the last.
func longest(x, last api.Instr) api.Func {
	f := api.Func{Slots: slotsOf(api.MaxSlots), Code: slices.Repeat([]api.Instr{x}, api.MaxCode)}
	f.Code[api.MaxCode-1] = last
	return f
}

// The greatest annotations that there are.
func TestLongestFunctions(t *testing.T) {
	const n, last = api.MaxSlots, api.MaxCode - 1
	for _, c := range []struct {
		x, last api.Instr
		slack   int
	}{
		// The elements of the last set can be left out, which nothing asks for, and those that the next instruction writes.
		{api.Instr{Op: api.Out}, api.Instr{Op: api.Return}, n},
		{api.Instr{Op: api.Out}, api.Instr{Op: api.Jump}, 0},
		{api.Instr{Op: api.Out}, api.Instr{Op: api.Jump, A: last}, n},
		{api.Instr{Op: api.Store, A: n - 1}, api.Instr{Op: api.Return}, n + last - 1},
		{api.Instr{Op: api.Store, A: n - 1}, api.Instr{Op: api.Jump}, last},
		{api.Instr{Op: api.Move, A: n - 1, B: 1}, api.Instr{Op: api.Return}, n + last - 1},
		{api.Instr{Op: api.Move, A: 1, B: 1}, api.Instr{Op: api.Return}, n},
		{api.Instr{Op: api.Load, B: n - 1}, api.Instr{Op: api.Trap}, n},
		{api.Instr{Op: api.Branch, B: last}, api.Instr{Op: api.Return}, n},
		// Where nothing follows another instruction, all elements can be left out.
		{api.Instr{Op: api.Return}, api.Instr{Op: api.Return}, n * api.MaxCode},
	} {
		f := longest(c.x, c.last)
		checkRight(t, f)
		if got := called(t, f, api.Live{Out: all(f)}); got != accepted(c.slack) {
			t.Errorf("the results for %v and %v are %v, not the slack %d", c.x, c.last, got, c.slack)
		}
	}
	f := longest(api.Instr{Op: api.Out}, api.Instr{Op: api.Return})
	for _, k := range []int{0, 1, 62, 63, 64, n - 1, n, last - 2, last - 1} {
		for _, s := range []int{0, 1, 63, 64, n - 2, n - 1} {
			if got := resultsOf(f, api.Live{Out: without(all(f), k, s)}); got != refused(k, s) {
				t.Errorf("without slot %d in set %d the results are %v", s, k, got)
			}
		}
	}
}

// The words of P17.1 with the functions that they name.
func TestCheckByEffects(t *testing.T) {
	c := chance(21)
	for range 3000 {
		f := randomFunc(&c, 1+c.below(8), 1+c.below(4), 1+c.below(4))
		sets := randomSets(&c, f, 1+c.below(3))
		want := api.OK
		for k := range f.Code {
			for _, j := range flow.Next(f, k) {
				if !bitset.Within(effect.In(f.Code[j], sets[j]), sets[k]) {
					want = api.ErrLive
				}
			}
		}
		if got := livecheck.Check(f, api.Live{Out: sets}); got != want {
			t.Fatalf("Check(%v, %v) returned %d, not %d", f, sets, got, want)
		}
	}
}

// General rules R1 and R2, for functions that are not right and annotations that do not belong to them

// wrongNumber returns a number that is often one from 0 to n, and otherwise often far from all.
func wrongNumber(c *chance, n int) int {
	if c.below(2) == 0 {
		return c.below(n + 1)
	}
	far := [...]int{math.MinInt, -1 << 32, -1<<32 + 1, -1000, -n, -1, n - 1, n, n + 1, 63, 64, api.MaxSlots - 1, api.MaxSlots, 1 << 16, 1 << 32, 1<<32 + 1, math.MaxInt - 1, math.MaxInt}
	return far[c.below(len(far))]
}

// wrongFunc returns a function that need not be right.
func wrongFunc(c *chance) api.Func {
	n, slots := c.below(6), c.below(6)
	f := api.Func{Params: c.below(20) - 5, Code: make([]api.Instr, n)}
	for range slots {
		f.Slots = append(f.Slots, api.Slot{Size: wrongNumber(c, 16), Align: wrongNumber(c, 16)})
	}
	for k := range f.Code {
		most := [...]int{n, slots}[c.below(2)]
		x := api.Instr{Op: wrongNumber(c, n), A: wrongNumber(c, most), B: wrongNumber(c, most), C: wrongNumber(c, n), Imm: uint64(c.below(2))}
		if c.below(4) > 0 {
			x.Op = [...]int{api.Jump, api.Branch, api.Return, api.Load, api.Store, api.Move, api.Out, api.Ops, -1}[c.below(9)]
		}
		f.Code[k] = x
	}
	return f
}

// wrongSets returns lists for f that need be no sets, and no slots of it.
func wrongSets(c *chance, f api.Func) [][]int {
	n := len(f.Code)
	if c.below(4) == 0 {
		n = max(0, n+c.below(5)-2)
	}
	sets := make([][]int, n)
	for k := range sets {
		for range c.below(4) {
			sets[k] = append(sets[k], wrongNumber(c, len(f.Slots)))
		}
		if c.below(8) > 0 {
			sets[k] = bitset.Of(sets[k])
		}
	}
	return sets
}

// checkWrong checks that the functions return, and that the results do not depend on spare capacity.
func checkWrong(t *testing.T, f api.Func, l api.Live) {
	t.Helper()
	got := called(t, f, l)
	f.Slots, f.Code = slices.Clip(slices.Clone(f.Slots)), slices.Clip(slices.Clone(f.Code))
	m := api.Live{Out: slices.Clip(slices.Clone(l.Out))}
	for k, set := range m.Out {
		m.Out[k] = slices.Clip(slices.Clone(set))
	}
	if got != resultsOf(f, m) {
		t.Fatalf("the results for %s and %s depend on spare capacity", short(f), short(l))
	}
}

func TestWrongArguments(t *testing.T) {
	many := slices.Repeat([]api.Slot{{Size: 8, Align: 8}}, 100*api.MaxSlots)
	loads := make([]api.Instr, 2*api.MaxSlots)
	for k := range loads {
		loads[k] = api.Instr{Op: api.Load, B: k}
	}
	for _, f := range []api.Func{
		{},
		{Params: -1, Slots: many, Code: []api.Instr{}},
		{Code: make([]api.Instr, 100*api.MaxCode)},
		{Code: loads},
		{Slots: many, Code: loads},
	} {
		n := len(f.Code)
		for _, sets := range [][][]int{nil, {}, {nil, {0, 1, 2}, {-1, api.MaxSlots}}, make([][]int, n), make([][]int, n+1), slices.Repeat([][]int{{0, 1, 2}}, n), slices.Repeat([][]int{{0, api.MaxSlots}}, n)} {
			checkWrong(t, f, api.Live{Out: sets})
		}
	}
	c := chance(22)
	for range 30000 {
		f := wrongFunc(&c)
		checkWrong(t, f, api.Live{Out: wrongSets(&c, f)})
	}
}
