package bitset_test

import (
	"maps"
	"math"
	"slices"
	"testing"

	"spillframe/api"
	"spillframe/bitset"
)

const last = api.MaxSlots - 1

// members has numbers that a set can have: those next to the limits of words of 8, 16, 32 and 64 bits and of the whole set.
func members() []int {
	l := []int{0, 1, 2, 3, 7, 8, 15, 16, 31, 32, 33, 62, 100, 300, last - 1, last}
	for n := 63; n < last; n += 64 {
		l = append(l, n, n+1)
	}
	slices.Sort(l)
	return l
}

// strangers has numbers that no set has. In a narrower type, or in the words of a set, many of them would be elements.
func strangers() []int {
	l := []int{math.MinInt, math.MinInt + 1, math.MinInt + 64, -1 << 32, -1<<32 + 5, -api.MaxSlots - 1, -api.MaxSlots, -api.MaxSlots + 1, -256, -128, -65, -64, -63, -8, -2, -1}
	l = append(l, api.MaxSlots, api.MaxSlots+1, api.MaxSlots+63, api.MaxSlots+64, 2*api.MaxSlots-1, 2*api.MaxSlots, 1<<16, 1<<16+3, 1<<31-1, 1<<32, 1<<32+5, 1<<32+last, 1<<62, math.MaxInt-1, math.MaxInt)
	return l
}

// mix is a generator without a pattern that the functions have.
type mix uint64

// below returns a number from 0 to n - 1.
func (m *mix) below(n int) int {
	*m = *m*6364136223846793005 + 1442695040888963407
	return int(uint64(*m) >> 33 % uint64(n))
}

// chosen returns the numbers from 0 to api.MaxSlots - 1 that pick chooses, in ascending order.
func chosen(pick func(n int) bool) []int {
	var l []int
	for n := range api.MaxSlots {
		if pick(n) {
			l = append(l, n)
		}
	}
	return l
}

// sets has sets of every density and length.
func sets() [][]int {
	m := mix(4)
	all := func(int) bool { return true }
	l := [][]int{nil, {}, chosen(all), members(), {0, last}, {3, 64}, {64, 65, 66}}
	for _, n := range members() {
		l = append(l, []int{n})
		l = append(l, chosen(func(k int) bool { return k != n }))
		l = append(l, chosen(func(k int) bool { return k < n }))
	}
	for _, part := range []int{2, 3, 64, 65, 100} {
		l = append(l, chosen(func(n int) bool { return n%part == 0 }))
		for range 4 {
			l = append(l, chosen(func(int) bool { return m.below(part) == 0 }))
		}
	}
	return l
}

// lists has lists that are no sets.
func lists() [][]int {
	l := [][]int{{1, 0}, {0, 0}, {last, last}, {3, 1, 3, -1}, {5, 4, 3, 2, 1}, {0, 1, 2, 2}, {0, 0, 1, 2}, {0, 2, 1, 3}, {63, 64, 63}, {64, 0}, {last, 0}, {-1, -2}, {api.MaxSlots + 1, api.MaxSlots}}
	for _, n := range strangers() {
		l = append(l, []int{n}, []int{n, n}, []int{n, 1, 2}, []int{1, n, 2}, []int{1, 2, n}, []int{n, math.MaxInt}, []int{math.MinInt, n})
	}
	m := mix(5)
	for range 50 {
		long := make([]int, 2+m.below(2*api.MaxSlots))
		for i := range long {
			long[i] = m.below(api.MaxSlots+40) - 20
		}
		l = append(l, append(long, 1, 0))
	}
	return l
}

func can(n int) bool {
	return n >= 0 && n < api.MaxSlots
}

// isSet is the definition of a set in chapter 4.
func isSet(s []int) bool {
	for i, n := range s {
		if !can(n) || i > 0 && n <= s[i-1] {
			return false
		}
	}
	return true
}

// model is a set as its elements; it does not know their order.
type model map[int]bool

func modelOf(l []int) model {
	m := model{}
	for _, n := range l {
		if can(n) {
			m[n] = true
		}
	}
	return m
}

func (m model) list() []int {
	return slices.Sorted(maps.Keys(m))
}

// roomy returns a copy of l with spare capacity that holds other numbers.
func roomy(l []int) []int {
	all := append(slices.Clone(l), 9, 4, 77, -5)
	return all[:len(l)]
}

// whole returns all of the memory of l.
func whole(l []int) []int {
	return l[:cap(l)]
}

// checkList compares a result with the list wanted. The call gets lists with spare capacity; it may not change them, and overwriting the result, or the lists, may not change the other.
func checkList(t *testing.T, name string, want []int, a, b []int, call func(a, b []int) []int) {
	t.Helper()
	ra, rb := roomy(a), roomy(b)
	beforeA, beforeB := slices.Clone(whole(ra)), slices.Clone(whole(rb))
	got := call(ra, rb)
	if !slices.Equal(got, want) {
		t.Fatalf("%s of %v and %v returned %v, not %v", name, a, b, got, want)
	}
	if !slices.Equal(whole(ra), beforeA) || !slices.Equal(whole(rb), beforeB) {
		t.Fatalf("%s changed its arguments %v and %v to %v and %v", name, beforeA, beforeB, whole(ra), whole(rb))
	}
	for i := range whole(got) {
		whole(got)[i] = -7
	}
	if !slices.Equal(whole(ra), beforeA) || !slices.Equal(whole(rb), beforeB) {
		t.Fatalf("the result of %s shares memory with its arguments %v and %v", name, a, b)
	}
	if again := call(ra, rb); !slices.Equal(again, want) {
		t.Fatalf("%s of %v and %v returned %v after its first result was overwritten, not %v", name, a, b, again, want)
	}
}

// checkTruth does the same for a function that reports something.
func checkTruth(t *testing.T, name string, want bool, a, b []int, call func(a, b []int) bool) {
	t.Helper()
	ra, rb := roomy(a), roomy(b)
	beforeA, beforeB := slices.Clone(whole(ra)), slices.Clone(whole(rb))
	if got := call(ra, rb); got != want {
		t.Fatalf("%s of %v and %v returned %t", name, a, b, got)
	}
	if !slices.Equal(whole(ra), beforeA) || !slices.Equal(whole(rb), beforeB) {
		t.Fatalf("%s changed its arguments %v and %v to %v and %v", name, beforeA, beforeB, whole(ra), whole(rb))
	}
}

func TestInputsAreWhatTheyAreNamed(t *testing.T) {
	for _, s := range sets() {
		if !isSet(s) {
			t.Errorf("%v is no set", s)
		}
	}
	for _, s := range lists() {
		if isSet(s) {
			t.Errorf("%v is a set", s)
		}
	}
	if slices.ContainsFunc(strangers(), can) {
		t.Errorf("a set can have one of %v", strangers())
	}
}

// P4.1

func TestCheckExamples(t *testing.T) {
	for _, x := range []struct {
		s    []int
		want bool
	}{
		{nil, true},
		{[]int{}, true},
		{[]int{0}, true},
		{[]int{last}, true},
		{[]int{0, last}, true},
		{[]int{0, 1, 2, 3}, true},
		{[]int{63, 64, 65}, true},
		{[]int{1, 0}, false},
		{[]int{1, 1}, false},
		{[]int{0, 1, 1}, false},
		{[]int{0, 2, 1}, false},
		{[]int{-1}, false},
		{[]int{-1, 0, 1}, false},
		{[]int{api.MaxSlots}, false},
		{[]int{0, 1, api.MaxSlots}, false},
		{[]int{math.MinInt, 0, math.MaxInt}, false},
	} {
		if got := bitset.Check(x.s); got != x.want {
			t.Errorf("Check(%v) returned %t", x.s, got)
		}
	}
}

func check(a, _ []int) bool {
	return bitset.Check(a)
}

func of(a, _ []int) []int {
	return bitset.Of(a)
}

func TestCheck(t *testing.T) {
	for _, s := range sets() {
		checkTruth(t, "Check", true, s, nil, check)
	}
	for _, s := range lists() {
		checkTruth(t, "Check", false, s, nil, check)
	}
	// One more element than there are numbers, in ascending order but for the last one.
	checkTruth(t, "Check", false, append(chosen(can), last), nil, check)
}

// All lists of up to three numbers, in every order.
func TestCheckAndOfSmallLists(t *testing.T) {
	few := []int{math.MinInt, -1, 0, 1, 63, 64, last, api.MaxSlots, math.MaxInt}
	for _, a := range few {
		for _, b := range few {
			for _, c := range few {
				for _, s := range [][]int{{a}, {a, b}, {a, b, c}} {
					checkTruth(t, "Check", isSet(s), s, nil, check)
					checkList(t, "Of", modelOf(s).list(), s, nil, of)
				}
			}
		}
	}
}

func TestOfExamples(t *testing.T) {
	for _, x := range []struct {
		l, want []int
	}{
		{[]int{3, 1, 3, -1}, []int{1, 3}},
		{nil, nil},
		{[]int{}, nil},
		{[]int{5}, []int{5}},
		{[]int{last, 0}, []int{0, last}},
		{[]int{0, 0, 0}, []int{0}},
		{[]int{api.MaxSlots, last, -1, 0}, []int{0, last}},
		{[]int{65, 64, 63, 1, 64}, []int{1, 63, 64, 65}},
		{[]int{math.MaxInt, math.MinInt}, nil},
	} {
		if got := bitset.Of(x.l); !slices.Equal(got, x.want) {
			t.Errorf("Of(%v) returned %v, not %v", x.l, got, x.want)
		}
	}
	checkList(t, "Of", nil, strangers(), nil, of)
}

func TestOf(t *testing.T) {
	for _, s := range sets() {
		checkList(t, "Of", s, s, nil, of)
		backwards := slices.Clone(s)
		slices.Reverse(backwards)
		checkList(t, "Of", s, slices.Concat(backwards, strangers(), s), nil, of)
	}
	for _, s := range lists() {
		checkList(t, "Of", modelOf(s).list(), s, nil, of)
		if !bitset.Check(bitset.Of(s)) {
			t.Errorf("Of(%v) is no set", s)
		}
	}
}

// P4.2

func TestElementExamples(t *testing.T) {
	s := []int{1, 63, 64, last}
	for _, x := range []struct {
		n           int
		has         bool
		add, remove []int
	}{
		{1, true, s, []int{63, 64, last}},
		{64, true, s, []int{1, 63, last}},
		{last, true, s, []int{1, 63, 64}},
		{0, false, []int{0, 1, 63, 64, last}, s},
		{2, false, []int{1, 2, 63, 64, last}, s},
		{last - 1, false, []int{1, 63, 64, last - 1, last}, s},
		{api.MaxSlots, false, s, s},
		{api.MaxSlots + 1, false, s, s},
		{-1, false, s, s},
		{1<<32 + 1, false, s, s},
		{math.MinInt, false, s, s},
		{math.MaxInt, false, s, s},
	} {
		if got := bitset.Has(s, x.n); got != x.has {
			t.Errorf("Has(%v, %d) returned %t", s, x.n, got)
		}
		if got := bitset.Add(s, x.n); !slices.Equal(got, x.add) {
			t.Errorf("Add(%v, %d) returned %v, not %v", s, x.n, got, x.add)
		}
		if got := bitset.Remove(s, x.n); !slices.Equal(got, x.remove) {
			t.Errorf("Remove(%v, %d) returned %v, not %v", s, x.n, got, x.remove)
		}
	}
}

func checkElement(t *testing.T, s []int, n int) {
	t.Helper()
	in := modelOf(s)
	checkTruth(t, "Has", in[n], s, nil, func(a, _ []int) bool { return bitset.Has(a, n) })
	with := chosen(func(k int) bool { return in[k] || k == n })
	checkList(t, "Add", with, s, nil, func(a, _ []int) []int { return bitset.Add(a, n) })
	without := chosen(func(k int) bool { return in[k] && k != n })
	checkList(t, "Remove", without, s, nil, func(a, _ []int) []int { return bitset.Remove(a, n) })
}

func TestElements(t *testing.T) {
	for _, s := range sets() {
		for _, n := range slices.Concat(members(), strangers()) {
			checkElement(t, s, n)
		}
	}
}

func TestEveryNumber(t *testing.T) {
	for _, s := range [][]int{nil, members(), chosen(can), chosen(func(n int) bool { return n%2 == 1 })} {
		for n := -api.MaxSlots; n < 2*api.MaxSlots; n++ {
			checkElement(t, s, n)
		}
	}
}

// A set that grows to all numbers, in an order without a pattern, and shrinks to none.
func TestGrowAndShrink(t *testing.T) {
	m := mix(6)
	order := chosen(can)
	for i := range order {
		k := i + m.below(len(order)-i)
		order[i], order[k] = order[k], order[i]
	}
	var s []int
	for i, n := range order {
		if s = bitset.Add(s, n); len(s) != i+1 || !bitset.Check(s) || !bitset.Has(s, n) {
			t.Fatalf("after %d numbers the set is %v", i+1, s)
		}
	}
	for i, n := range order {
		if s = bitset.Remove(s, n); len(s) != len(order)-i-1 || !bitset.Check(s) || bitset.Has(s, n) {
			t.Fatalf("without %d numbers the set is %v", i+1, s)
		}
	}
}

// P4.3

func TestPairExamples(t *testing.T) {
	for _, x := range []struct {
		a, b, union, meet, minus []int
		within                   bool
	}{
		{nil, nil, nil, nil, nil, true},
		{nil, []int{1}, []int{1}, nil, nil, true},
		{[]int{1}, nil, []int{1}, nil, []int{1}, false},
		{[]int{1, 3}, []int{1, 3}, []int{1, 3}, []int{1, 3}, nil, true},
		{[]int{1, 3}, []int{2, 3}, []int{1, 2, 3}, []int{3}, []int{1}, false},
		{[]int{3}, []int{1, 3, 5}, []int{1, 3, 5}, []int{3}, nil, true},
		{[]int{1, 3, 5}, []int{3}, []int{1, 3, 5}, []int{3}, []int{1, 5}, false},
		{[]int{63}, []int{64}, []int{63, 64}, nil, []int{63}, false},
		{[]int{0}, []int{last}, []int{0, last}, nil, []int{0}, false},
		{[]int{1, 65, last}, []int{1, 65}, []int{1, 65, last}, []int{1, 65}, []int{last}, false},
	} {
		if got := bitset.Union(x.a, x.b); !slices.Equal(got, x.union) {
			t.Errorf("Union(%v, %v) returned %v, not %v", x.a, x.b, got, x.union)
		}
		if got := bitset.Meet(x.a, x.b); !slices.Equal(got, x.meet) {
			t.Errorf("Meet(%v, %v) returned %v, not %v", x.a, x.b, got, x.meet)
		}
		if got := bitset.Minus(x.a, x.b); !slices.Equal(got, x.minus) {
			t.Errorf("Minus(%v, %v) returned %v, not %v", x.a, x.b, got, x.minus)
		}
		if got := bitset.Within(x.a, x.b); got != x.within {
			t.Errorf("Within(%v, %v) returned %t", x.a, x.b, got)
		}
	}
}

func TestPairs(t *testing.T) {
	for _, a := range sets() {
		inA := modelOf(a)
		for _, b := range sets() {
			inB := modelOf(b)
			checkList(t, "Union", chosen(func(n int) bool { return inA[n] || inB[n] }), a, b, bitset.Union)
			checkList(t, "Meet", chosen(func(n int) bool { return inA[n] && inB[n] }), a, b, bitset.Meet)
			minus := chosen(func(n int) bool { return inA[n] && !inB[n] })
			checkList(t, "Minus", minus, a, b, bitset.Minus)
			checkTruth(t, "Within", len(minus) == 0, a, b, bitset.Within)
		}
	}
}

// One list as both arguments.
func TestPairsOfTheSameMemory(t *testing.T) {
	for _, s := range sets() {
		checkList(t, "Union", s, s, nil, func(a, _ []int) []int { return bitset.Union(a, a) })
		checkList(t, "Meet", s, s, nil, func(a, _ []int) []int { return bitset.Meet(a, a) })
		checkList(t, "Minus", nil, s, nil, func(a, _ []int) []int { return bitset.Minus(a, a) })
		checkTruth(t, "Within", true, s, nil, func(a, _ []int) bool { return bitset.Within(a, a) })
	}
}

// Two lists that lie side by side in the same memory.
func TestPairsOfNeighbours(t *testing.T) {
	both := []int{1, 2, 3, 2, 3, 4}
	before := slices.Clone(both)
	a, b := both[:3], both[3:]
	for _, x := range []struct {
		name string
		call func(a, b []int) []int
		want []int
	}{{"Union", bitset.Union, []int{1, 2, 3, 4}}, {"Meet", bitset.Meet, []int{2, 3}}, {"Minus", bitset.Minus, []int{1}}} {
		if got := x.call(a, b); !slices.Equal(got, x.want) {
			t.Errorf("%s of %v and %v returned %v, not %v", x.name, a, b, got, x.want)
		}
	}
	if got := bitset.Add(a, 9); !slices.Equal(got, []int{1, 2, 3, 9}) || !slices.Equal(both, before) {
		t.Errorf("Add returned %v, and the memory is %v", got, both)
	}
	if got := bitset.Remove(a, 1); !slices.Equal(got, []int{2, 3}) || !slices.Equal(both, before) {
		t.Errorf("Remove returned %v, and the memory is %v", got, both)
	}
}

// The consequences of chapter 4, by the package's own functions.
func TestLattice(t *testing.T) {
	all := sets()
	m := mix(7)
	for range 3000 {
		a, b, c := all[m.below(len(all))], all[m.below(len(all))], all[m.below(len(all))]
		if left, right := bitset.Meet(a, bitset.Union(b, c)), bitset.Union(bitset.Meet(a, b), bitset.Meet(a, c)); !slices.Equal(left, right) {
			t.Fatalf("Meet does not distribute over Union for %v, %v and %v", a, b, c)
		}
		if left, right := bitset.Union(a, bitset.Meet(b, c)), bitset.Meet(bitset.Union(a, b), bitset.Union(a, c)); !slices.Equal(left, right) {
			t.Fatalf("Union does not distribute over Meet for %v, %v and %v", a, b, c)
		}
		minus, meet := bitset.Minus(a, b), bitset.Meet(a, b)
		if !slices.Equal(bitset.Union(minus, meet), a) || len(bitset.Meet(minus, meet)) > 0 {
			t.Fatalf("Minus and Meet do not divide %v by %v", a, b)
		}
		if bitset.Within(a, b) != slices.Equal(bitset.Union(a, b), b) {
			t.Fatalf("Within and Union disagree about %v and %v", a, b)
		}
	}
}

// Nothing is promised for lists that are no sets, but that the functions return and leave them as they are.
func TestListsThatAreNoSets(t *testing.T) {
	all := lists()
	for i, a := range all {
		b := all[len(all)-1-i]
		ra, rb := roomy(a), roomy(b)
		beforeA, beforeB := slices.Clone(whole(ra)), slices.Clone(whole(rb))
		for _, n := range slices.Concat(strangers(), []int{0, 1, last}) {
			bitset.Has(ra, n)
			bitset.Add(ra, n)
			bitset.Remove(ra, n)
		}
		bitset.Union(ra, rb)
		bitset.Meet(ra, rb)
		bitset.Minus(ra, rb)
		bitset.Within(ra, rb)
		if !slices.Equal(whole(ra), beforeA) || !slices.Equal(whole(rb), beforeB) {
			t.Errorf("the arguments %v and %v were changed to %v and %v", beforeA, beforeB, whole(ra), whole(rb))
		}
	}
}
