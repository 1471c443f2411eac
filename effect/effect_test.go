package effect_test

import (
	"math"
	"slices"
	"strings"
	"testing"

	"spillframe/api"
	"spillframe/bitset"
	"spillframe/effect"
	"spillframe/sirrun"
	"spillframe/sirtext"
)

const last = api.MaxSlots - 1

// lines has an instruction of each operation, in their order. Its operands that are no slots have the numbers of slots that there are.
func lines() []string {
	return []string{"const r2 3", "copy r3 r2", "add r3 r2 r1", "sub r3 r2 r1", "mul r3 r2 r1", "div r3 r2 r1", "and r3 r2 r1", "or r3 r2 r1", "xor r3 r2 r1", "less r3 r2 r1", "equal r3 r2 r1", "pair r3 r2 r1", "high r3 r2", "in r3", "out r3", "load r3 s2", "store s3 r2", "move s3 s2", "arg a3 r2", "param r3 a2", "jump @3", "branch r3 @2", "call f0", "return", "trap 3"}
}

// function reads a function with slots and parameters, of which semicolons end the lines; the entry calls nothing.
func function(t *testing.T, code string) api.Func {
	t.Helper()
	text := "func 0;return;func 8;" + strings.Repeat("slot 8 8;", 4) + code
	p, line, e := sirtext.Parse(strings.ReplaceAll(text, ";", "\n"))
	if e != api.OK {
		t.Fatalf("line %d of %q has the error %d", line, text, e)
	}
	return p.Funcs[1]
}

// instr reads an instruction.
func instr(t *testing.T, line string) api.Instr {
	t.Helper()
	return function(t, line+strings.Repeat(";return", 4)).Code[0]
}

// operations has every operation, and numbers that are none; in a narrower type many of them would be one that reads or writes a slot.
func operations() []int {
	l := []int{math.MinInt, -1 << 32, -1<<32 + api.Move, -256 + api.Store, -api.Store, -api.Load, -1, 1<<8 + api.Load, 1<<8 + api.Move, 1<<16 + api.Store, 1<<32 + api.Load, 1<<32 + api.Store, 1<<32 + api.Move, math.MaxInt}
	for op := range 2 * api.Ops {
		l = append(l, op)
	}
	return l
}

// numbers are operands of every kind, right and wrong.
func numbers() []int {
	return []int{math.MinInt, -1<<32 + 1, -api.MaxSlots, -2, -1, 0, 1, 2, 3, 4, 5, 63, 64, 65, last - 1, last, api.MaxSlots, api.MaxSlots + 1, 1 << 16, 1<<32 + 1, math.MaxInt}
}

// eachInstr calls visit with an instruction for each operation and each pair of numbers of a as the operands A and B. C and Imm are other numbers.
func eachInstr(a []int, visit func(x api.Instr)) {
	for _, op := range operations() {
		for i, n := range a {
			for k, m := range a {
				visit(api.Instr{Op: op, A: n, B: m, C: a[(i+k)%len(a)], Imm: uint64(a[(i+k+1)%len(a)])})
			}
		}
	}
}

// chance is a generator without a pattern that the functions have.
type chance uint64

// below returns a number from 0 to n - 1.
func (c *chance) below(n int) int {
	*c = *c*6364136223846793005 + 1442695040888963407
	return int(uint64(*c) >> 33 % uint64(n))
}

// set returns a set with one of so many slots.
func (c *chance) set(oneOf int) []int {
	var l []int
	for s := range api.MaxSlots {
		if c.below(oneOf) == 0 {
			l = append(l, s)
		}
	}
	return l
}

// instr returns an instruction of any operation whose operands are slots.
func (c *chance) instr() api.Instr {
	x := api.Instr{Op: c.below(api.Ops), A: c.below(api.MaxSlots), B: c.below(api.MaxSlots), C: c.below(api.MaxSlots), Imm: uint64(c.below(api.MaxSlots))}
	if c.below(2) == 0 {
		x.Op = [...]int{api.Load, api.Store, api.Move}[c.below(3)]
	}
	if c.below(8) == 0 {
		x.B = x.A
	}
	return x
}

// roomy returns a copy of l with spare capacity in which it would go on.
func roomy(l []int) []int {
	all := append(slices.Clone(l), 9, 4, 77, -5, 0, 1, 2, 3)
	return all[:len(l)]
}

// whole returns all of the memory of l.
func whole(l []int) []int {
	return l[:cap(l)]
}

// spoil overwrites all of the memory of l.
func spoil(l []int) {
	for i := range whole(l) {
		whole(l)[i] = -7
	}
}

// P15.1

func TestUsesAndDefines(t *testing.T) {
	uses := map[string]int{"load r3 s2": 2, "move s3 s2": 2}
	defines := map[string]int{"store s3 r2": 3, "move s3 s2": 3}
	seen := map[int]bool{}
	for _, line := range lines() {
		x := instr(t, line)
		seen[x.Op] = true
		var want []int
		if s, ok := uses[line]; ok {
			want = []int{s}
		}
		if got := effect.Uses(x); !slices.Equal(got, want) {
			t.Errorf("Uses of %s returned %v, not %v", line, got, want)
		}
		s, ok := defines[line] // zero if there is none
		if got, has := effect.Defines(x); got != s || has != ok {
			t.Errorf("Defines of %s returned %d and %t, not %d and %t", line, got, has, s, ok)
		}
	}
	if len(seen) != api.Ops {
		t.Errorf("%d operations were looked at", len(seen))
	}
}

// Any operation, also one that there is not, with any operands.
func TestUsesAndDefinesOfAnything(t *testing.T) {
	eachInstr(numbers(), func(x api.Instr) {
		if got, want := effect.Uses(x), usesOf(x); !slices.Equal(got, want) {
			t.Fatalf("Uses(%v) returned %v, not %v", x, got, want)
		}
		want, ok := definesOf(x)
		if got, has := effect.Defines(x); got != want || has != ok {
			t.Fatalf("Defines(%v) returned %d and %t, not %d and %t", x, got, has, want, ok)
		}
	})
}

func TestUsesAreNewMemory(t *testing.T) {
	for _, line := range lines() {
		x := instr(t, line)
		spoil(effect.Uses(x))
		if got, want := effect.Uses(x), usesOf(x); !slices.Equal(got, want) {
			t.Errorf("Uses of %s returned %v after its first result was overwritten, not %v", line, got, want)
		}
	}
}

// What runs do: they end if a slot that an instruction uses is undefined, and after it the slots that it defines are not.
func TestRunsAgree(t *testing.T) {
	for _, line := range lines()[:api.Jump] {
		if strings.HasPrefix(line, "param") { // the entry has no parameters
			continue
		}
		x := instr(t, line)
		uses := effect.Uses(x)
		s, ok := effect.Defines(x)
		for missing := range 4 {
			var code string
			for stored := range 4 {
				if stored != missing {
					code += "store s" + string(rune('0'+stored)) + " r0;"
				}
			}
			// No register that divides may be zero.
			code += "const r1 1;" + line + ";load r0 s" + string(rune('0'+missing)) + ";return"
			f := function(t, code)
			f.Params = 0
			o, e := sirrun.Run(api.Program{Funcs: []api.Func{f}}, nil, 100)
			if e != api.OK {
				t.Fatalf("the run of %q has the error %d", code, e)
			}
			want := api.Outcome{Kind: api.Undef, Steps: 6} // the load after the instruction
			switch {
			case slices.Contains(uses, missing):
				want.Steps = 5
			case ok && s == missing:
				want = api.Outcome{Kind: api.Returned, Steps: 7}
			}
			if o.Kind != want.Kind || o.Steps != want.Steps {
				t.Errorf("the run of %q ended with %d after %d steps, not with %d after %d", code, o.Kind, o.Steps, want.Kind, want.Steps)
			}
		}
	}
}

// P15.2

func TestRemovable(t *testing.T) {
	for _, line := range lines() {
		want := strings.HasPrefix(line, "store") || strings.HasPrefix(line, "move")
		if got := effect.Removable(instr(t, line)); got != want {
			t.Errorf("Removable of %s returned %t", line, got)
		}
	}
	eachInstr(numbers(), func(x api.Instr) {
		if got, want := effect.Removable(x), x.Op == 16 || x.Op == 17; got != want {
			t.Fatalf("Removable(%v) returned %t", x, got)
		}
	})
}

// P15.3

// The first one is the example of chapter 15.
func TestInExamples(t *testing.T) {
	for _, c := range []struct {
		line      string
		out, want []int
	}{
		{"move s1 s2", []int{1, 3}, []int{2, 3}},
		{"move s1 s2", nil, []int{2}},
		{"move s1 s2", []int{}, []int{2}},
		{"move s1 s2", []int{2}, []int{2}},
		{"move s1 s2", []int{0, 1, 2, 3}, []int{0, 2, 3}},
		{"move s2 s1", []int{2}, []int{1}},
		{"move s1 s1", nil, []int{1}},
		{"move s1 s1", []int{1}, []int{1}},
		{"move s1 s1", []int{0, 3}, []int{0, 1, 3}},
		{"load r1 s2", nil, []int{2}},
		{"load r1 s2", []int{1, 2}, []int{1, 2}},
		{"load r1 s0", []int{1, 3}, []int{0, 1, 3}},
		{"load r1 s3", []int{0, 1}, []int{0, 1, 3}},
		{"store s2 r1", nil, nil},
		{"store s2 r1", []int{2}, nil},
		{"store s2 r1", []int{1, 2, 3}, []int{1, 3}},
		{"store s2 r1", []int{1, 3}, []int{1, 3}},
		{"copy r1 r2", []int{1, 3}, []int{1, 3}},
		{"return", nil, nil},
		{"call f0", []int{0, 1, 2, 3}, []int{0, 1, 2, 3}},
	} {
		if got := effect.In(instr(t, c.line), c.out); !slices.Equal(got, c.want) {
			t.Errorf("In of %s and %v returned %v, not %v", c.line, c.out, got, c.want)
		}
	}
}

// checkIn compares In with the model. The set has spare capacity; it may not be changed, and overwriting the result, or the set, may not change the other.
func checkIn(t *testing.T, x api.Instr, out []int) {
	t.Helper()
	want := inOf(x, out)
	r := roomy(out)
	before := slices.Clone(whole(r))
	got := effect.In(x, r)
	if !slices.Equal(got, want) {
		t.Fatalf("In(%v, %v) returned %v, not %v", x, out, got, want)
	}
	if !slices.Equal(whole(r), before) {
		t.Fatalf("In(%v, %v) changed its argument to %v", x, before, whole(r))
	}
	spoil(got)
	if !slices.Equal(whole(r), before) {
		t.Fatalf("the result of In(%v, %v) shares memory with its argument", x, out)
	}
	if again := effect.In(x, r); !slices.Equal(again, want) {
		t.Fatalf("In(%v, %v) returned %v after its first result was overwritten, not %v", x, out, again, want)
	}
}

// Each operation with all sets of four slots, also next to the limits of the words of a set and at the last slot.
func TestInOfSmallSets(t *testing.T) {
	for _, slots := range [][]int{{0, 1, 2, 3}, {62, 63, 64, 65}, {0, 255, 256, last}, {7, 8, last - 1, last}} {
		for bits := range 1 << len(slots) {
			var out []int
			for i, s := range slots {
				if bits>>i&1 == 1 {
					out = append(out, s)
				}
			}
			eachInstr(slots, func(x api.Instr) { checkIn(t, x, out) })
		}
	}
}

// Each slot as the only one that is defined or used, with no other slot and with all of them.
func TestInOfEverySlot(t *testing.T) {
	c := chance(1)
	all := c.set(1)
	for s := range api.MaxSlots {
		for _, op := range []int{api.Load, api.Store, api.Move, api.Copy} {
			for _, x := range []api.Instr{{Op: op, A: s}, {Op: op, B: s}, {Op: op, A: s, B: s}, {Op: op, A: s, B: last - s}} {
				for _, out := range [][]int{nil, {s}, all, bitset.Remove(all, s)} {
					checkIn(t, x, out)
				}
			}
		}
	}
}

func TestInOfRandomSets(t *testing.T) {
	c := chance(2)
	for range 3000 {
		checkIn(t, c.instr(), c.set(1+c.below(40)))
	}
}

// Operands that are no slots may have any value: only the slots of an instruction are slots.
func TestInOfOtherOperands(t *testing.T) {
	eachInstr(numbers(), func(x api.Instr) {
		if a, _ := roleOf(x.Op); a == 'w' {
			x.A = 1
		}
		if _, b := roleOf(x.Op); b == 'r' {
			x.B = 2
		}
		checkIn(t, x, []int{0, 1, 3, last})
	})
}

// The consequences of chapter 15.
func TestInOfUnions(t *testing.T) {
	c := chance(3)
	for range 3000 {
		x := c.instr()
		a, b := c.set(1+c.below(20)), c.set(1+c.below(20))
		both := effect.In(x, bitset.Union(a, b))
		if want := bitset.Union(effect.In(x, a), effect.In(x, b)); !slices.Equal(both, want) {
			t.Fatalf("In of %v and the union of %v and %v is %v, not %v", x, a, b, both, want)
		}
		if !bitset.Within(effect.In(x, a), both) || !bitset.Within(effect.In(x, b), both) {
			t.Fatalf("In of %v is not monotone for %v and %v", x, a, b)
		}
	}
}

// Nothing is promised for lists that are no sets and for numbers that are no slots, but that In returns and leaves the lists as they are.
func TestInOfWrongArguments(t *testing.T) {
	lists := [][]int{nil, {3, 1}, {1, 1}, {-1}, {api.MaxSlots}, {math.MaxInt, 0, math.MinInt}, slices.Repeat([]int{2, 1}, 2*api.MaxSlots)}
	eachInstr(numbers(), func(x api.Instr) {
		for _, l := range lists {
			r := roomy(l)
			before := slices.Clone(whole(r))
			spoil(effect.In(x, r))
			if !slices.Equal(whole(r), before) {
				t.Fatalf("In(%v, %v) changed its argument to %v", x, before, whole(r))
			}
		}
	})
}

// P15.4

func TestRenamedExamples(t *testing.T) {
	for _, c := range []struct {
		line string
		to   []int
		want string
	}{
		{"load r3 s2", []int{3, 2, 1, 0}, "load r3 s1"},
		{"store s3 r2", []int{3, 2, 1, 0}, "store s0 r2"},
		{"move s3 s2", []int{3, 2, 1, 0}, "move s0 s1"},
		{"move s3 s2", []int{0, 1, 2, 3}, "move s3 s2"},
		{"move s3 s2", []int{0, 1, 2, 2}, "move s2 s2"},
		{"move s2 s2", []int{0, 1, 3, 2}, "move s3 s3"},
		{"move s3 s2", []int{0, 1, 0}, "move s3 s0"}, // 3 is not an index of to
		{"move s2 s3", []int{0, 1, 0}, "move s0 s3"},
		{"move s3 s2", []int{1, 0}, "move s3 s2"},
		{"move s0 s1", []int{1, 0}, "move s1 s0"}, // both at the same time
		{"move s0 s1", []int{1}, "move s1 s1"},
		{"load r0 s0", []int{3}, "load r0 s3"},
		{"load r0 s1", []int{3}, "load r0 s1"},
		{"load r0 s0", nil, "load r0 s0"},
		{"store s0 r0", []int{}, "store s0 r0"},
		{"arg a3 r2", []int{3, 2, 1, 0}, "arg a3 r2"},
		{"param r3 a2", []int{3, 2, 1, 0}, "param r3 a2"},
		{"branch r3 @2", []int{3, 2, 1, 0}, "branch r3 @2"},
		{"add r3 r2 r1", []int{3, 2, 1, 0}, "add r3 r2 r1"},
		{"call f0", []int{1}, "call f0"},
		{"trap 3", []int{3, 2, 1, 0}, "trap 3"},
	} {
		if got := sirtext.Instr(effect.Renamed(instr(t, c.line), c.to)); got != c.want {
			t.Errorf("Renamed of %s and %v returned %s, not %s", c.line, c.to, got, c.want)
		}
	}
}

// checkRenamed compares Renamed with the model; the list has spare capacity, which has no say, and may not be changed.
func checkRenamed(t *testing.T, x api.Instr, to []int) {
	t.Helper()
	r := roomy(to)
	before := slices.Clone(whole(r))
	if got, want := effect.Renamed(x, r), renamedOf(x, to); got != want {
		t.Fatalf("Renamed(%v, %v) returned %v, not %v", x, to, got, want)
	}
	if !slices.Equal(whole(r), before) {
		t.Fatalf("Renamed(%v, %v) changed its argument to %v", x, before, whole(r))
	}
}

// Any operation with any operands, and lists of any length with any elements.
func TestRenamed(t *testing.T) {
	c := chance(4)
	backwards := c.set(1)
	slices.Reverse(backwards)
	lists := [][]int{nil, {}, {1}, {1, 0}, {math.MinInt, -1, api.MaxSlots, math.MaxInt}, {5, 5, 5, 5, 5}, numbers(), backwards, backwards[:last], append([]int{-3}, backwards...)}
	eachInstr(numbers(), func(x api.Instr) {
		for _, to := range lists {
			checkRenamed(t, x, to)
		}
	})
}

func TestRenamedEverySlot(t *testing.T) {
	c := chance(5)
	to := make([]int, api.MaxSlots)
	for i := range to {
		to[i] = c.below(api.MaxSlots)
	}
	for s := -2; s < api.MaxSlots+2; s++ {
		for _, op := range []int{api.Load, api.Store, api.Move, api.Copy} {
			checkRenamed(t, api.Instr{Op: op, A: s, B: s}, to)
			checkRenamed(t, api.Instr{Op: op, A: s, B: last - s}, to)
			checkRenamed(t, api.Instr{Op: op, A: s, B: s + 1}, to[:max(0, min(s, len(to)))])
			checkRenamed(t, api.Instr{Op: op, A: s + 1, B: s}, to[:max(0, min(s+1, len(to)))])
		}
	}
}
