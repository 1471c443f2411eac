package interfere_test

import (
	"fmt"
	"math"
	"slices"
	"strings"
	"testing"

	"spillframe/api"
	"spillframe/bitset"
	"spillframe/interfere"
	"spillframe/livecheck"
	"spillframe/liveness"
	"spillframe/sir"
	"spillframe/sirtext"
)

// function reads a function with four slots of 8 bytes, of which semicolons end the lines.
func function(t *testing.T, code string) api.Func {
	t.Helper()
	text := strings.Repeat("slot 8 8;", 4) + code
	p, line, e := sirtext.Parse("func 0\n" + strings.ReplaceAll(text, ";", "\n"))
	if e != api.OK {
		t.Fatalf("line %d of %q has the error %d", line, text, e)
	}
	return p.Funcs[0]
}

// short returns a value as text, without its end if it is very long.
func short(x any) string {
	text := fmt.Sprint(x)
	return text[:min(len(text), 3000)]
}

// roomySets returns a copy of a list of sets in which it and each set would go on in their spare capacity.
func roomySets(l [][]int) [][]int {
	r := make([][]int, len(l), len(l)+2)
	for k, set := range l {
		r[k] = append(slices.Clone(set), 9, -4, 0, 1, 2)[:len(set)]
	}
	copy(r[len(l):cap(r)], [][]int{{0, 1}, {5}})
	return r
}

// wholeSets returns a copy of all memory of a list of sets.
func wholeSets(l [][]int) [][]int {
	w := slices.Clone(l[:cap(l)])
	for k := range w {
		w[k] = slices.Clone(w[k][:cap(w[k])])
	}
	return w
}

// clipped returns a copy of a list of sets without spare capacity.
func clipped(l [][]int) [][]int {
	c := slices.Clip(slices.Clone(l))
	for k, set := range c {
		c[k] = slices.Clip(slices.Clone(set))
	}
	return c
}

// roomy returns a copy of f with spare capacity in which its lists would go on.
func roomy(f api.Func) api.Func {
	f.Slots = append(slices.Clone(f.Slots), api.Slot{Size: 16, Align: 16})[:len(f.Slots)]
	n := len(f.Code)
	f.Code = append(slices.Clone(f.Code), api.Instr{Op: api.Move, A: 1}, api.Instr{Op: api.Store}, api.Instr{Op: api.Return})[:n]
	return f
}

// whole returns a copy of all memory of f.
func whole(f api.Func) api.Func {
	f.Slots = slices.Clone(f.Slots[:cap(f.Slots)])
	f.Code = slices.Clone(f.Code[:cap(f.Code)])
	return f
}

// results are all that the functions return for a function and an annotation.
type results struct {
	graph, strict   [][]int
	eGraph, eStrict api.Errno
	moves           [][2]int
}

func resultsOf(f api.Func, l api.Live) results {
	var r results
	r.graph, r.eGraph = interfere.Graph(f, l)
	r.strict, r.eStrict = interfere.Strict(f, l)
	r.moves = interfere.Moves(f)
	return r
}

func same(a, b results) bool {
	return equal(a.graph, b.graph) && equal(a.strict, b.strict) && a.eGraph == b.eGraph && a.eStrict == b.eStrict && slices.Equal(a.moves, b.moves)
}

// modelled returns what chapter 18 promises. Its words leave the error to livecheck.Check.
func modelled(f api.Func, l api.Live) results {
	if e := livecheck.Check(f, l); e != api.OK {
		return results{eGraph: e, eStrict: e, moves: movesOf(f)}
	}
	return results{graph: graphOf(f, l.Out, false), strict: graphOf(f, l.Out, true), moves: movesOf(f)}
}

// called returns the results for copies of f and l that have spare capacity, and checks that all of their memory remains as it is, also when the results are written to.
func called(t *testing.T, f api.Func, l api.Live) results {
	t.Helper()
	r, m := roomy(f), api.Live{Out: roomySets(l.Out)}
	rBefore, mBefore := whole(r), wholeSets(m.Out)
	got := resultsOf(r, m)
	spoilt := resultsOf(r, m)
	checkApart(t, spoilt.graph)
	checkApart(t, spoilt.strict)
	if !sir.SameFunc(whole(r), rBefore) {
		t.Fatalf("the function %s is changed to %s", short(rBefore), short(whole(r)))
	}
	if !equal(wholeSets(m.Out), mBefore) {
		t.Fatalf("the annotation %s is changed to %s", short(mBefore), short(wholeSets(m.Out)))
	}
	return got
}

// checkApart overwrites each set of a result, and checks that no two of them share memory.
func checkApart(t *testing.T, g [][]int) {
	t.Helper()
	for x, set := range g {
		for i := range set[:cap(set)] {
			set[:cap(set)][i] = -x
		}
	}
	for x, set := range g {
		for _, n := range set[:cap(set)] {
			if n != -x {
				t.Fatalf("the sets of %d and %d share memory", x, -n)
			}
		}
	}
}

// check compares all results for a right function with the model, and returns them. It also checks what holds for every graph.
func check(t *testing.T, f api.Func, sets [][]int) results {
	t.Helper()
	if e := sir.Check(api.Program{Funcs: []api.Func{f}}); e != api.OK {
		t.Fatalf("%s has the error %d", short(f), e)
	}
	l := api.Live{Out: sets}
	got, want := called(t, f, l), modelled(f, l)
	if !same(got, want) {
		t.Fatalf("the results for %s and %s are %s, not %s", short(f), short(l), short(got), short(want))
	}
	if got.eGraph != api.OK {
		return got
	}
	for _, g := range [][][]int{got.graph, got.strict} {
		if !interfere.Check(g, len(f.Slots)) {
			t.Fatalf("Check refuses %s of %s and %s", short(g), short(f), short(l))
		}
		if n := interfere.Degree(g); n != degreeOf(g) {
			t.Fatalf("Degree(%s) returned %d", short(g), n)
		}
	}
	if !contains(got.strict, got.graph) {
		t.Fatalf("Strict of %s and %s is %s without edges of %s", short(f), short(l), short(got.strict), short(got.graph))
	}
	return got
}

// P18.1, P18.2

// example is one function, with the least annotation if sets is nil, and its graphs.
type example struct {
	code          string
	sets          [][]int
	graph, strict [][2]int
}

func TestExamples(t *testing.T) {
	type pairs = [][2]int
	for _, x := range []example{
		// The example of chapter 18, and the same slots one after the other.
		{"store s0 r1; store s1 r2; load r3 s0; load r4 s1; return", nil, pairs{{0, 1}}, pairs{{0, 1}}},
		{"store s0 r1; load r3 s0; store s1 r2; load r4 s1; return", nil, nil, nil},
		{"store s0 r1; load r3 s0; store s1 r2; load r4 s1; return", [][]int{{0}, {0}, {0, 1}, {1}, {}}, pairs{{0, 1}}, pairs{{0, 1}}},
		{"return", nil, nil, nil},
		{"return", [][]int{{0, 1, 2, 3}}, nil, nil},
		// Only where a slot is defined it interferes, with what is live after that.
		{"load r1 s0; load r1 s1; return", nil, nil, nil},
		{"load r1 s0; load r1 s1; call f0; return", [][]int{{0, 1}, {0, 1}, {}, {}}, nil, nil},
		{"store s0 r1; load r1 s0; load r2 s0; return", nil, nil, nil},
		{"store s3 r1; return", [][]int{{1, 3}, {}}, pairs{{1, 3}}, pairs{{1, 3}}},
		{"store s3 r1; store s1 r1; return", [][]int{{3}, {1}, {1}}, nil, nil},
		{"in r0; store s3 r1; return", [][]int{{1}, {}, {}}, nil, nil},
		// A slot that is not live after it is defined still takes bytes then.
		{"store s0 r1; store s1 r2; load r3 s0; return", nil, pairs{{0, 1}}, pairs{{0, 1}}},
		{"store s1 r2; load r3 s0; return", nil, pairs{{0, 1}}, pairs{{0, 1}}},
		// No slot interferes with itself, and those that are live with each other only where one is defined.
		{"store s0 r0; store s1 r0; store s2 r0; store s3 r0; load r0 s0; load r0 s2; load r0 s3; return", nil, pairs{{0, 1}, {0, 2}, {0, 3}, {2, 3}}, pairs{{0, 1}, {0, 2}, {0, 3}, {2, 3}}},
		// The Move of y to x is no reason, for Graph only; another instruction is.
		{"move s1 s0; load r0 s0; load r0 s1; return", nil, nil, pairs{{0, 1}}},
		{"move s0 s1; load r0 s0; load r0 s1; return", nil, nil, pairs{{0, 1}}},
		{"move s1 s0; load r0 s1; return", nil, nil, nil},
		{"move s1 s0; load r0 s0; return", nil, nil, pairs{{0, 1}}},
		{"move s1 s0; return", nil, nil, nil},
		{"move s1 s0; load r0 s1; return", [][]int{{0, 1}, {}, {}}, nil, pairs{{0, 1}}},
		{"move s1 s0; move s1 s0; load r0 s0; load r0 s1; return", nil, nil, pairs{{0, 1}}},
		{"move s1 s0; store s0 r1; load r0 s0; load r0 s1; return", nil, pairs{{0, 1}}, pairs{{0, 1}}},
		{"move s1 s0; store s1 r1; load r0 s0; load r0 s1; return", nil, pairs{{0, 1}}, pairs{{0, 1}}},
		{"move s1 s0; move s0 s1; load r0 s0; load r0 s1; return", nil, nil, pairs{{0, 1}}},
		{"move s1 s0; move s1 s2; load r0 s0; load r0 s1; return", nil, pairs{{0, 1}, {1, 2}}, pairs{{0, 1}, {1, 2}}},
		{"move s1 s0; load r0 s1; load r0 s2; return", nil, pairs{{1, 2}}, pairs{{1, 2}}},
		{"move s1 s0; load r0 s0; load r0 s1; load r0 s2; load r0 s3; return", nil, pairs{{1, 2}, {1, 3}}, pairs{{0, 1}, {1, 2}, {1, 3}}},
		// A Store of a register that was loaded from the slot is no Move.
		{"load r0 s0; store s1 r0; load r0 s0; load r0 s1; return", nil, pairs{{0, 1}}, pairs{{0, 1}}},
		// A Move of a slot to itself defines it without a reason for anything.
		{"move s0 s0; load r0 s0; load r0 s1; return", nil, nil, nil},
		{"move s0 s0; load r0 s1; return", nil, nil, nil},
		{"move s0 s0; return", [][]int{{0, 1, 2, 3}, {}}, nil, nil},
		{"move s0 s0; store s0 r0; load r0 s0; load r0 s1; return", nil, pairs{{0, 1}}, pairs{{0, 1}}},
		{"move s3 s3; move s3 s2; load r0 s2; load r0 s3; return", nil, nil, pairs{{2, 3}}},
		// Around a loop, and where nothing is reached.
		{"store s0 r0; load r1 s1; branch r1 @0; return", nil, pairs{{0, 1}}, pairs{{0, 1}}},
		{"store s0 r0; load r1 s0; store s1 r0; load r1 s1; branch r1 @0; return", nil, nil, nil},
		{"store s0 r0; load r1 s0; store s1 r0; load r1 s1; branch r1 @1; return", nil, pairs{{0, 1}}, pairs{{0, 1}}},
		{"return; store s0 r0; store s1 r0; load r0 s0; return", nil, pairs{{0, 1}}, pairs{{0, 1}}},
		{"branch r0 @2; store s0 r1; load r1 s0; load r1 s1; return", nil, pairs{{0, 1}}, pairs{{0, 1}}},
		// The numbers of other operands are no slots.
		{"load r1 s0; copy r2 r1; arg a2 r1; out r3; const r3 1; high r0 r1; return", [][]int{{0, 1, 2, 3}, {0, 1, 2, 3}, {0, 1, 2, 3}, {0, 1, 2, 3}, {0, 1, 2, 3}, {0, 1, 2, 3}, {}}, nil, nil},
	} {
		f := function(t, x.code)
		if x.sets == nil {
			x.sets = liveness.Solve(f).Out
		}
		got := check(t, f, x.sets)
		if got.eGraph != api.OK || !equal(got.graph, joined(4, x.graph...)) {
			t.Errorf("Graph of %q and %v returned %v, %d", x.code, x.sets, got.graph, got.eGraph)
		}
		if got.eStrict != api.OK || !equal(got.strict, joined(4, x.strict...)) {
			t.Errorf("Strict of %q and %v returned %v, %d", x.code, x.sets, got.strict, got.eStrict)
		}
	}
}

func TestMoves(t *testing.T) {
	for _, x := range []struct {
		code string
		want [][2]int
	}{
		{"return", nil},
		{"store s0 r1; move s1 s0; load r2 s1; return", [][2]int{{1, 0}}},
		{"load r1 s0; store s1 r2; copy r3 r1; return", nil},
		// In the order of the code, and not of the slots.
		{"move s3 s2; move s0 s1; move s2 s0; return", [][2]int{{3, 2}, {0, 1}, {2, 0}}},
		// A pair that comes again stays where it came first.
		{"move s3 s2; move s0 s1; move s3 s2; move s0 s1; move s0 s2; return", [][2]int{{3, 2}, {0, 1}, {0, 2}}},
		{"move s3 s2; move s3 s2; return", [][2]int{{3, 2}}},
		// The other direction is another pair, and a Move to itself is none.
		{"move s1 s0; move s0 s1; return", [][2]int{{1, 0}, {0, 1}}},
		{"move s0 s0; move s3 s3; move s1 s0; return", [][2]int{{1, 0}}},
		// Also where it is not reached, or what it writes is never read.
		{"return; move s1 s0; jump @0", [][2]int{{1, 0}}},
	} {
		f := function(t, x.code)
		if got := interfere.Moves(f); !slices.Equal(got, x.want) {
			t.Errorf("Moves of %q returned %v, not %v", x.code, got, x.want)
		}
		check(t, f, liveness.Solve(f).Out)
	}
}

// Annotations that livecheck.Check refuses.
func TestRefused(t *testing.T) {
	f := function(t, "store s0 r1; move s1 s0; load r2 s1; return")
	for _, sets := range [][][]int{
		nil, {}, {{0}, {1}, {}}, {{0}, {1}, {}, {}, {}}, {{}, {}, {}, {}}, {{0}, {}, {}, {}}, {{}, {1}, {}, {}}, {{0}, {1}, {}, {2}, {}},
		{{0}, {1}, {2}, {3}}, {{0}, {1}, {}, {4}}, {{0, 4}, {1}, {}, {}}, {{0}, {1, 0}, {}, {}}, {{0, 0}, {1}, {}, {}}, {{0}, {1, 1}, {}, {}}, {{-1, 0}, {1}, {}, {}},
		{{0}, {1}, {}, {math.MinInt}}, {{0}, {1}, {}, {math.MaxInt}}, {{0}, {1}, {}, {api.MaxSlots}}, {{0}, {1}, {}, {1 << 32}},
	} {
		got := check(t, f, sets)
		if got.eGraph != api.ErrLive || got.eStrict != api.ErrLive || len(got.graph) > 0 || len(got.strict) > 0 {
			t.Errorf("Graph and Strict for %v returned %v", sets, got)
		}
	}
}

// A function can be without slots, and without moves.
func TestNothing(t *testing.T) {
	for _, f := range []api.Func{{Code: []api.Instr{{Op: api.Return}}}, {Slots: []api.Slot{}, Code: []api.Instr{{Op: api.Jump}}}} {
		for _, sets := range [][][]int{{nil}, {{}}} {
			if got := check(t, f, sets); !same(got, results{}) {
				t.Errorf("the results for %v and %v are %v", f, sets, got)
			}
		}
	}
	f := function(t, "store s0 r1; load r2 s0; return")
	if got := check(t, f, [][]int{{0}, nil, {}}); len(got.graph) != 4 || len(got.strict) != 4 || degreeOf(got.strict) != 0 {
		t.Errorf("the results without interference are %v", got)
	}
}

// control has the instructions with n targets, after which others may follow than the next one.
func control(n int) []api.Instr {
	l := []api.Instr{{Op: api.Return}}
	for to := range n {
		l = append(l, api.Instr{Op: api.Jump, A: to}, api.Instr{Op: api.Branch, B: to})
	}
	return l
}

// accesses has the instructions that read and write so many slots, and one that does neither.
func accesses(slots int) []api.Instr {
	l := []api.Instr{{Op: api.Out}}
	for s := range slots {
		l = append(l, api.Instr{Op: api.Load, B: s}, api.Instr{Op: api.Store, A: s})
		for other := range slots {
			l = append(l, api.Instr{Op: api.Move, A: s, B: other})
		}
	}
	return l
}

// eachFunc calls visit with each right function that has n instructions and so many slots, and returns how many there are.
func eachFunc(n, slots int, visit func(f api.Func)) int {
	f := api.Func{Slots: slices.Repeat([]api.Slot{{Size: 8, Align: 8}}, slots), Code: make([]api.Instr, n)}
	all := append(control(n), accesses(slots)...)
	count := 0
	var fill func(k int)
	fill = func(k int) {
		if k == n {
			count++
			visit(f)
			return
		}
		for _, x := range all {
			if k < n-1 || sir.Terminator(x.Op) {
				f.Code[k] = x
				fill(k + 1)
			}
		}
	}
	fill(0)
	return count
}

// annotations returns each annotation of n sets of so many slots.
func annotations(n, slots int) [][][]int {
	var l [][][]int
	for bits := range 1 << (n * slots) {
		sets := make([][]int, n)
		for k := range n {
			for s := range slots {
				if bits>>(k*slots+s)&1 == 1 {
					sets[k] = append(sets[k], s)
				}
			}
		}
		l = append(l, sets)
	}
	return l
}

// Each short function with each annotation; also the consequence that a greater annotation gives a greater graph.
func TestEachShortFunction(t *testing.T) {
	for _, c := range []struct{ n, slots, count int }{
		{1, 3, 2}, {2, 2, 14 * 3}, {3, 2, 16 * 16 * 4}, {2, 3, 21 * 3},
	} {
		l := annotations(c.n, c.slots)
		count := eachFunc(c.n, c.slots, func(f api.Func) {
			good := map[int]results{}
			for i, sets := range l {
				if got := check(t, f, sets); got.eGraph == api.OK {
					good[i] = got
				}
			}
			for i, a := range good {
				for j, b := range good {
					greater := contains(l[j], l[i])
					if greater && !(contains(b.graph, a.graph) && contains(b.strict, a.strict)) {
						t.Fatalf("for %v the annotation %v gives the results %v, and %v gives %v", f, l[i], a, l[j], b)
					}
				}
			}
		})
		if count != c.count {
			t.Errorf("%d functions of %d instructions and %d slots were checked, not %d", count, c.n, c.slots, c.count)
		}
	}
}

// chance is a generator without a pattern that the functions have.
type chance uint64

// below returns a number from 0 to n - 1.
func (c *chance) below(n int) int {
	*c = *c*6364136223846793005 + 1442695040888963407
	return int(uint64(*c) >> 33 % uint64(n))
}

// slotsOf returns so many slots of all sizes; those whose indices differ by a multiple of five have the same size.
func slotsOf(n int) []api.Slot {
	var l []api.Slot
	for s := range n {
		l = append(l, api.Slot{Size: 1 << (s % 5), Align: 16})
	}
	return l
}

// randomFunc returns a right function, in which one of so many instructions is there for control.
func randomFunc(c *chance, length, slots, oneOf int) api.Func {
	f := api.Func{Slots: slotsOf(slots), Code: make([]api.Instr, length)}
	for k := range f.Code {
		s := c.below(slots)
		other := s%5 + 5*c.below((slots-s%5+4)/5) // a slot of the same size
		f.Code[k] = [...]api.Instr{{Op: api.Load, A: c.below(8), B: s}, {Op: api.Store, A: s, B: c.below(8)}, {Op: api.Move, A: s, B: other}, {Op: api.Call}}[c.below(4)]
		if c.below(oneOf) == 0 {
			f.Code[k] = [...]api.Instr{{Op: api.Branch, B: c.below(length)}, {Op: api.Branch, B: k}, {Op: api.Jump, A: c.below(length)}, {Op: api.Trap}}[c.below(4)]
		}
		if k == length-1 {
			f.Code[k] = [...]api.Instr{{Op: api.Jump, A: c.below(length)}, {Op: api.Return}, {Op: api.Trap, Imm: 1}}[c.below(3)]
		}
	}
	return f
}

// all returns the sets with all slots of f.
func all(f api.Func) [][]int {
	set := make([]int, len(f.Slots))
	for s := range set {
		set[s] = s
	}
	return slices.Repeat([][]int{set}, len(f.Code))
}

// greater returns an annotation of f that is accepted: the least one and the slots of one set, at all instructions.
func greater(c *chance, f api.Func) [][]int {
	var more []int
	for range c.below(4) {
		more = append(more, c.below(len(f.Slots)))
	}
	var l [][]int
	for _, set := range liveness.Solve(f).Out {
		l = append(l, bitset.Union(set, bitset.Of(more)))
	}
	return l
}

// checkRandom checks annotations of f that are accepted, of which each is greater than the one before it.
func checkRandom(t *testing.T, c *chance, f api.Func) {
	t.Helper()
	var before results
	for i, sets := range [][][]int{liveness.Solve(f).Out, greater(c, f), all(f)} {
		got := check(t, f, sets)
		if got.eGraph != api.OK || got.eStrict != api.OK {
			t.Fatalf("the results for %s and %s are %s", short(f), short(sets), short(got))
		}
		if i > 0 && !(contains(got.graph, before.graph) && contains(got.strict, before.strict)) {
			t.Fatalf("the results for %s and %s are %s, and %s for a smaller annotation", short(f), short(sets), short(got), short(before))
		}
		before = got
	}
}

func TestRandomFunctions(t *testing.T) {
	c := chance(30)
	for range 6000 {
		checkRandom(t, &c, randomFunc(&c, 1+c.below(30), 1+c.below(12), 1+c.below(8)))
	}
	for range 20 {
		checkRandom(t, &c, randomFunc(&c, 1+c.below(100), 60+c.below(10), 1+c.below(20)))
	}
}

// full returns sets for n slots in which each has all others.
func full(n int) [][]int {
	g := make([][]int, n)
	for x := range g {
		for y := range n {
			if x != y {
				g[x] = append(g[x], y)
			}
		}
	}
	return g
}

// star returns sets for n slots in which one has all others, but for one.
func star(n, middle, but int) [][]int {
	g := make([][]int, n)
	for y := range n {
		if y != middle && y != but {
			g[middle] = append(g[middle], y)
			g[y] = append(g[y], middle)
		}
	}
	return g
}

// The longest functions with the most slots, in which all slots are live.
func TestLongestFunctions(t *testing.T) {
	const n, last = api.MaxSlots, api.MaxCode - 1
	for _, c := range []struct {
		instr         func(k int) api.Instr
		graph, strict [][]int
	}{
		{func(int) api.Instr { return api.Instr{Op: api.Out} }, make([][]int, n), make([][]int, n)},
		{func(k int) api.Instr { return api.Instr{Op: api.Load, B: k % n} }, make([][]int, n), make([][]int, n)},
		{func(k int) api.Instr { return api.Instr{Op: api.Store, A: k % n} }, full(n), full(n)},
		{func(int) api.Instr { return api.Instr{Op: api.Store, A: n - 1} }, star(n, n-1, -1), star(n, n-1, -1)},
		{func(int) api.Instr { return api.Instr{Op: api.Store, A: 64} }, star(n, 64, -1), star(n, 64, -1)},
		{func(int) api.Instr { return api.Instr{Op: api.Move, A: n - 1, B: 1} }, star(n, n-1, 1), star(n, n-1, -1)},
		{func(int) api.Instr { return api.Instr{Op: api.Move, A: 1, B: n - 1} }, star(n, 1, n-1), star(n, 1, -1)},
		{func(k int) api.Instr { return api.Instr{Op: api.Move, A: k % n, B: k % n} }, make([][]int, n), make([][]int, n)},
		{func(k int) api.Instr { return api.Instr{Op: api.Move, A: k % n, B: (k*k + k/n) % n} }, nil, nil},
	} {
		f := api.Func{Slots: slices.Repeat([]api.Slot{{Size: 16, Align: 16}}, n), Code: make([]api.Instr, api.MaxCode)}
		for k := range last {
			f.Code[k] = c.instr(k)
		}
		f.Code[last] = api.Instr{Op: api.Return}
		got := called(t, f, api.Live{Out: all(f)})
		if c.graph != nil && !equal(got.graph, c.graph) || c.strict != nil && !equal(got.strict, c.strict) || got.eGraph != api.OK || got.eStrict != api.OK {
			t.Errorf("with %v the results are %s", f.Code[1], short(got))
		}
		if !slices.Equal(got.moves, movesOf(f)) {
			t.Errorf("with %v Moves returned %s", f.Code[1], short(got.moves))
		}
		if !interfere.Check(got.graph, n) || !interfere.Check(got.strict, n) || interfere.Degree(got.strict) != degreeOf(got.strict) {
			t.Errorf("with %v Check refuses the results, or Degree is wrong", f.Code[1])
		}
	}
	c := chance(31)
	check(t, randomFunc(&c, api.MaxCode, 120, 9), all(api.Func{Slots: slotsOf(120), Code: make([]api.Instr, api.MaxCode)}))
}

// P18.3

// checkLists compares Check and Degree of any lists with the model.
func checkLists(t *testing.T, g [][]int, n int) bool {
	t.Helper()
	r := roomySets(g)
	before := wholeSets(r)
	got, degree := interfere.Check(r, n), interfere.Degree(r)
	if want := checkOf(g, n); got != want {
		t.Fatalf("Check(%s, %d) returned %v, not %v", short(g), n, got, want)
	}
	if want := degreeOf(g); degree != want {
		t.Fatalf("Degree(%s) returned %d, not %d", short(g), degree, want)
	}
	if !equal(wholeSets(r), before) {
		t.Fatalf("the lists %s are changed to %s", short(before), short(wholeSets(r)))
	}
	if c := clipped(g); interfere.Check(c, n) != got || interfere.Degree(c) != degree {
		t.Fatalf("the results for %s depend on spare capacity", short(g))
	}
	return got
}

func TestCheck(t *testing.T) {
	for _, x := range []struct {
		g    [][]int
		n    int
		want bool
	}{
		{nil, 0, true},
		{[][]int{}, 0, true},
		{nil, 1, false},
		{nil, -1, false},
		{[][]int{nil}, 0, false},
		{[][]int{nil}, 1, true},
		{[][]int{{}}, 1, true},
		{[][]int{nil}, 2, false},
		{[][]int{nil}, -1, false},
		{[][]int{nil}, math.MinInt, false},
		{[][]int{nil}, math.MaxInt, false},
		{[][]int{{0}}, 1, false},
		{[][]int{{1}, {0}}, 2, true},
		{[][]int{{1}, {0}}, 1, false},
		{[][]int{{1}, {0}}, 3, false},
		{[][]int{{1}, nil}, 2, false},
		{[][]int{nil, {0}}, 2, false},
		{[][]int{nil, {1}}, 2, false},
		{[][]int{{0, 1}, {0}}, 2, false},
		{[][]int{{1}, {0, 1}}, 2, false},
		{[][]int{{1, 1}, {0}}, 2, false},
		{[][]int{{1}, {0, 0}}, 2, false},
		{[][]int{{1, 2}, {0}, {0}}, 3, true},
		{[][]int{{2, 1}, {0}, {0}}, 3, false},
		{[][]int{{1, 2}, {0}, nil}, 3, false},
		{[][]int{{1, 2}, nil, {0}}, 3, false},
		{[][]int{{1}, {2}, {0}}, 3, false},
		{[][]int{{2}, nil, {0}}, 3, true},
		{[][]int{{1, 2}, {0, 2}, {0, 1}}, 3, true},
		{[][]int{{1, 2}, {0}}, 2, false},
		{[][]int{{2}, nil}, 2, false},
		{[][]int{{-1}, nil}, 2, false},
		{[][]int{nil, {-1, 0}}, 2, false},
		{[][]int{nil, nil, {-1}}, 3, false},
		{[][]int{{api.MaxSlots}, nil}, 2, false},
		{[][]int{{math.MaxInt}, nil}, 2, false},
		{[][]int{{math.MinInt}, nil}, 2, false},
		{[][]int{{1 << 32}, nil}, 2, false},
		{[][]int{{1<<32 + 1}, {0}}, 2, false},
	} {
		if got := checkLists(t, x.g, x.n); got != x.want {
			t.Errorf("Check(%v, %d) returned %v", x.g, x.n, got)
		}
	}
}

// Check does not end where sets do: a number from api.MaxSlots on has an empty set.
func TestCheckOfManySets(t *testing.T) {
	const most = api.MaxSlots
	with := func(n int, pairs ...[2]int) [][]int {
		g := make([][]int, n)
		for _, p := range pairs {
			g[p[0]] = append(g[p[0]], p[1])
		}
		return g
	}
	for _, n := range []int{most - 1, most, most + 1, most + 88, 3 * most, 1 << 16} {
		for _, pairs := range [][][2]int{{}, {{0, 1}, {1, 0}}, {{0, most - 2}, {most - 2, 0}}, {{63, 64}, {64, 63}}} {
			if !checkLists(t, with(n, pairs...), n) {
				t.Errorf("%d sets with %v are refused", n, pairs)
			}
		}
		for _, pairs := range [][][2]int{{{0, 0}}, {{0, 1}}, {{1, 0}}, {{0, n}}, {{0, n - 1}}, {{n - 1, 0}}, {{n - 1, n - 1}}, {{63, 64}}, {{most - 2, most - 2}}, {{most - 2, most}}} {
			if checkLists(t, with(n, pairs...), n) {
				t.Errorf("%d sets with %v are accepted", n, pairs)
			}
		}
		want := n == most-1 || n == most // the element n - 1 is possible
		if got := checkLists(t, with(n, [2]int{0, n - 1}, [2]int{n - 1, 0}), n); got != want {
			t.Errorf("%d sets with the first and the last one joined: %v", n, got)
		}
	}
	for n := range most + 3 {
		if got := interfere.Check(full(n), n); got != (n <= most) {
			t.Errorf("%d sets with all others: %v", n, got)
		}
	}
	if empty := make([][]int, 1<<22); !interfere.Check(empty, len(empty)) || interfere.Degree(empty) != 0 {
		t.Error("very many empty sets are refused")
	}
}

// Each list of up to three sets, also with elements that are none of their numbers, and spoiled graphs.
func TestCheckOfEachList(t *testing.T) {
	accepted := 0
	for n := range 4 {
		for _, g := range annotations(n, n+1) {
			if checkLists(t, g, n) {
				accepted++
			}
			for m := range n + 2 {
				checkLists(t, g, m)
			}
		}
	}
	if accepted != 1+1+2+8 {
		t.Errorf("%d graphs of up to three slots are accepted", accepted)
	}
	c := chance(32)
	for range 20000 {
		n := 1 + c.below(7)
		g := make([][]int, n)
		for range c.below(2 * n) {
			x, y := c.below(n), c.below(n)
			if x != y {
				g[x], g[y] = bitset.Add(g[x], y), bitset.Add(g[y], x)
			}
		}
		if !checkLists(t, g, n) {
			t.Fatalf("%v is refused", g)
		}
		x := c.below(n)
		g[x] = append(g[x], wrongNumber(&c, n))
		if c.below(2) == 0 {
			g[x] = bitset.Of(g[x])
		}
		checkLists(t, g, n)
	}
}

func TestDegree(t *testing.T) {
	for _, x := range []struct {
		g    [][]int
		want int
	}{
		{nil, 0}, {[][]int{}, 0}, {[][]int{nil}, 0}, {[][]int{{}, nil}, 0}, {[][]int{{1}, {0}}, 1}, {[][]int{{2}, nil, {0}}, 1},
		{[][]int{{1, 2, 3}, {0}, {0}, {0}}, 3}, {[][]int{{1}, {0, 2, 3}, {1}, {1}}, 3}, {[][]int{{3}, {3}, {3}, {0, 1, 2}}, 3},
		{full(5), 4}, {full(api.MaxSlots), api.MaxSlots - 1}, {star(api.MaxSlots, 0, 1), api.MaxSlots - 2},
	} {
		if got := interfere.Degree(x.g); got != x.want {
			t.Errorf("Degree(%s) returned %d, not %d", short(x.g), got, x.want)
		}
	}
}

// General rules R1 and R2, for functions that are not right and annotations that do not belong to them

// wrongNumber returns a number that is often one from 0 to n, and otherwise often far from all.
func wrongNumber(c *chance, n int) int {
	if c.below(2) == 0 {
		return c.below(n + 1)
	}
	far := [...]int{math.MinInt, -1 << 32, -1<<32 + 1, -1000, -n, -1, n - 1, n, n + 1, 63, 64, api.MaxSlots - 1, api.MaxSlots, 1 << 16, 1 << 32, 1<<32 + 1, math.MaxInt - 1, math.MaxInt}
	return far[c.below(len(far))]
}

// wrongFunc returns a function that need not be right.
func wrongFunc(c *chance) api.Func {
	n, slots := c.below(6), c.below(6)
	f := api.Func{Params: c.below(20) - 5, Code: make([]api.Instr, n)}
	for range slots {
		f.Slots = append(f.Slots, api.Slot{Size: wrongNumber(c, 16), Align: wrongNumber(c, 16)})
	}
	for k := range f.Code {
		most := [...]int{n, slots}[c.below(2)]
		x := api.Instr{Op: wrongNumber(c, n), A: wrongNumber(c, most), B: wrongNumber(c, most), C: wrongNumber(c, n), Imm: uint64(c.below(2))}
		if c.below(4) > 0 {
			x.Op = [...]int{api.Jump, api.Branch, api.Return, api.Load, api.Store, api.Move, api.Out, api.Ops, -1}[c.below(9)]
		}
		f.Code[k] = x
	}
	return f
}

// wrongSets returns lists for f that need be no sets, and no slots of it.
func wrongSets(c *chance, f api.Func) [][]int {
	if c.below(2) == 0 {
		return all(f) // livecheck.Check takes it, also if the instructions name other slots
	}
	n := len(f.Code)
	if c.below(4) == 0 {
		n = max(0, n+c.below(5)-2)
	}
	sets := make([][]int, n)
	for k := range sets {
		for range c.below(4) {
			sets[k] = append(sets[k], wrongNumber(c, len(f.Slots)))
		}
		if c.below(8) > 0 {
			sets[k] = bitset.Of(sets[k])
		}
	}
	return sets
}

// checkWrong checks that the functions return, and that the results do not depend on spare capacity. It returns whether the annotation is accepted.
func checkWrong(t *testing.T, f api.Func, l api.Live) bool {
	t.Helper()
	got := called(t, f, l)
	f.Slots, f.Code = slices.Clip(slices.Clone(f.Slots)), slices.Clip(slices.Clone(f.Code))
	if !same(got, resultsOf(f, api.Live{Out: clipped(l.Out)})) {
		t.Fatalf("the results for %s and %s depend on spare capacity", short(f), short(l))
	}
	return got.eGraph == api.OK
}

func TestWrongArguments(t *testing.T) {
	many := slices.Repeat([]api.Slot{{Size: 8, Align: 8}}, 100*api.MaxSlots)
	var writes []api.Instr
	for k := range 2 * api.MaxSlots {
		writes = append(writes, api.Instr{Op: api.Store, A: k}, api.Instr{Op: api.Move, A: 2*api.MaxSlots - k, B: k})
	}
	for _, f := range []api.Func{
		{},
		{Params: -1, Slots: many, Code: []api.Instr{}},
		{Code: make([]api.Instr, 100*api.MaxCode)},
		{Slots: many, Code: make([]api.Instr, 100*api.MaxCode)},
		{Code: writes},
		{Slots: many, Code: writes},
		{Slots: many[:3], Code: writes},
	} {
		n := len(f.Code)
		for _, sets := range [][][]int{nil, {}, {nil, {0, 1, 2}, {-1, api.MaxSlots}}, make([][]int, n), make([][]int, n+1), slices.Repeat([][]int{{0, 1, 2}}, n), slices.Repeat([][]int{{0, api.MaxSlots - 1}}, n), slices.Repeat([][]int{{0, api.MaxSlots}}, n)} {
			checkWrong(t, f, api.Live{Out: sets})
		}
	}
	c := chance(33)
	accepted := 0
	for range 30000 {
		f := wrongFunc(&c)
		if checkWrong(t, f, api.Live{Out: wrongSets(&c, f)}) {
			accepted++
		}
	}
	if accepted < 1000 {
		t.Errorf("only %d wrong functions came as far as their graphs", accepted)
	}
}
