package extent_test

import (
	"math"
	"math/big"
	"slices"
	"testing"

	"spillframe/api"
	"spillframe/extent"
)

const top = api.MaxBound

// alignments returns all alignments, written as P3.1 defines them.
func alignments() []int {
	var l []int
	for n := 1; n <= api.MaxAlign; n *= 2 {
		l = append(l, n)
	}
	return l
}

// wrongAlignments has numbers next to alignments, and numbers that are powers of two beyond the limits, also in a narrower type.
func wrongAlignments() []int {
	l := []int{math.MinInt, math.MinInt + 1, -16, -8, -4, -2, -1, 0, api.MaxAlign * 2, 1 << 31, 1 << 32, 1<<32 + 1, 1<<32 + 16, 1 << 62, math.MaxInt, top}
	for _, n := range alignments() {
		for _, near := range []int{n - 1, n + 1, n + n/2, -n} {
			if !slices.Contains(alignments(), near) {
				l = append(l, near)
			}
		}
	}
	return l
}

// wrongBounds has numbers that are not bounds.
func wrongBounds() []int {
	return []int{math.MinInt, math.MinInt + 1, -1 << 32, -top - 1, -top, -16, -1, top + 1, top + 2, 1<<32 - 1, 1 << 32, 1<<32 + 8, 1 << 62, math.MaxInt - 1, math.MaxInt}
}

// bounds has the bounds at which something may change.
func bounds() []int {
	l := []int{0, 1, 2, 3, 5, 7, 8, 15, 16, 17, 31, 32, 33, 100, 4095, 4096, 4097, top / 2, top/2 + 1, top - 17, top - 16, top - 15, top - 8, top - 7, top - 2, top - 1, top}
	for _, n := range alignments() {
		l = append(l, n-1, n, n+1, 3*n, top-n, top-n+1, min(top-n+2, top))
	}
	return l
}

// mix is a generator without a pattern that the functions have.
type mix uint64

// below returns a number from 0 to n - 1.
func (m *mix) below(n int) int {
	*m = *m*6364136223846793005 + 1442695040888963407
	return int(uint64(*m) >> 33 % uint64(n))
}

// sum returns x + y as a bound, with numbers of any size.
func sum(x, y int) (int, api.Errno) {
	for _, n := range []int{x, y} {
		if n < 0 || n > top {
			return 0, api.ErrRange
		}
	}
	z := new(big.Int).Add(big.NewInt(int64(x)), big.NewInt(int64(y)))
	if z.Cmp(big.NewInt(top)) > 0 {
		return 0, api.ErrOverflow
	}
	return int(z.Int64()), api.OK
}

// right is the definition in P3.3.
func right(a api.Interval) bool {
	_, e := sum(a.Off, a.Size)
	return e == api.OK
}

// has reports whether a byte belongs to an interval that is right.
func has(a api.Interval, at int) bool {
	return right(a) && at >= a.Off && at < a.Off+a.Size
}

// wrongIntervals has intervals that are not right.
func wrongIntervals() []api.Interval {
	l := []api.Interval{{Off: top, Size: 1}, {Off: 1, Size: top}, {Off: top, Size: top}, {Off: top - 7, Size: 8}, {Off: -8, Size: 16}, {Off: 16, Size: -8}, {Off: -1, Size: 1}, {Off: -1, Size: 0}, {Off: 0, Size: -1}, {Off: 1, Size: -1}}
	for _, n := range wrongBounds() {
		for _, m := range []int{0, 1, 8, top, -n, math.MaxInt, math.MinInt} {
			l = append(l, api.Interval{Off: n, Size: m}, api.Interval{Off: m, Size: n})
		}
	}
	return l
}

func TestWrongIntervalsAreWrong(t *testing.T) {
	for _, a := range wrongIntervals() {
		if right(a) {
			t.Errorf("%v is right", a)
		}
	}
}

// P3.1

func TestPower(t *testing.T) {
	for _, n := range alignments() {
		if !extent.Power(n) {
			t.Errorf("Power(%d) returned false", n)
		}
	}
	if n := len(alignments()); n != 25 {
		t.Errorf("there are %d alignments, not 25", n)
	}
	for _, n := range wrongAlignments() {
		if extent.Power(n) {
			t.Errorf("Power(%d) returned true", n)
		}
	}
}

func TestPowerOfSmallNumbers(t *testing.T) {
	for n := -1 << 12; n <= 1<<12; n++ {
		if got, want := extent.Power(n), slices.Contains(alignments(), n); got != want {
			t.Errorf("Power(%d) returned %t", n, got)
		}
	}
}

// P3.2

func TestUpExamples(t *testing.T) {
	for _, x := range []struct {
		n, align, want int
		e              api.Errno
	}{
		{17, 16, 32, api.OK},
		{16, 16, 16, api.OK},
		{15, 16, 16, api.OK},
		{1, 16, 16, api.OK},
		{0, 16, 0, api.OK},
		{0, api.MaxAlign, 0, api.OK},
		{1, api.MaxAlign, api.MaxAlign, api.OK},
		{17, 1, 17, api.OK},
		{top, 1, top, api.OK},
		{top, 2, 0, api.ErrOverflow},
		{top - 1, 2, top - 1, api.OK},
		{top - 15, 16, top - 15, api.OK},
		{top - 14, 16, 0, api.ErrOverflow},
		{top - api.MaxAlign + 1, api.MaxAlign, top - api.MaxAlign + 1, api.OK},
		{top - api.MaxAlign + 2, api.MaxAlign, 0, api.ErrOverflow},
		{top, api.MaxAlign, 0, api.ErrOverflow},
		{top + 1, 1, 0, api.ErrRange},
		{top + 1, 2, 0, api.ErrRange},
		{-1, 16, 0, api.ErrRange},
		{17, 0, 0, api.ErrRange},
		{17, 3, 0, api.ErrRange},
		{17, -16, 0, api.ErrRange},
		{17, 2 * api.MaxAlign, 0, api.ErrRange},
		{top, 3, 0, api.ErrRange},
		{top, 2 * api.MaxAlign, 0, api.ErrRange},
	} {
		if got, e := extent.Up(x.n, x.align); got != x.want || e != x.e {
			t.Errorf("Up(%d, %d) returned %d, %d, not %d, %d", x.n, x.align, got, e, x.want, x.e)
		}
	}
}

// The result is the first multiple from n on: there is exactly one from n to n + align - 1.
func TestUpIsTheSmallestMultiple(t *testing.T) {
	for _, n := range bounds() {
		for _, align := range alignments() {
			got, e := extent.Up(n, align)
			multiple := (n + align - 1) / align * align
			want, wantE := multiple, api.OK
			if multiple > top {
				want, wantE = 0, api.ErrOverflow
			}
			if got != want || e != wantE {
				t.Errorf("Up(%d, %d) returned %d, %d, not %d, %d", n, align, got, e, want, wantE)
			}
		}
	}
}

func TestUpOfWrongArguments(t *testing.T) {
	for _, n := range slices.Concat(bounds(), wrongBounds()) {
		for _, align := range wrongAlignments() {
			if got, e := extent.Up(n, align); got != 0 || e != api.ErrRange {
				t.Errorf("Up(%d, %d) returned %d, %d", n, align, got, e)
			}
		}
	}
	for _, n := range wrongBounds() {
		for _, align := range alignments() {
			if got, e := extent.Up(n, align); got != 0 || e != api.ErrRange {
				t.Errorf("Up(%d, %d) returned %d, %d", n, align, got, e)
			}
		}
	}
}

func TestAddExamples(t *testing.T) {
	for _, x := range []struct {
		x, y, want int
		e          api.Errno
	}{
		{0, 0, 0, api.OK},
		{16, 32, 48, api.OK},
		{top, 0, top, api.OK},
		{0, top, top, api.OK},
		{top - 16, 16, top, api.OK},
		{top - 16, 17, 0, api.ErrOverflow},
		{top, 1, 0, api.ErrOverflow},
		{1, top, 0, api.ErrOverflow},
		{top, top, 0, api.ErrOverflow},
		{-1, 0, 0, api.ErrRange},
		{0, -1, 0, api.ErrRange},
		{-1, 1, 0, api.ErrRange},
		{1, -1, 0, api.ErrRange},
		{top + 1, 0, 0, api.ErrRange},
		{0, top + 1, 0, api.ErrRange},
		{top + 1, -1, 0, api.ErrRange},
		{math.MaxInt, math.MaxInt, 0, api.ErrRange},
		{math.MinInt, math.MinInt, 0, api.ErrRange},
		{math.MaxInt, 1, 0, api.ErrRange},
	} {
		if got, e := extent.Add(x.x, x.y); got != x.want || e != x.e {
			t.Errorf("Add(%d, %d) returned %d, %d, not %d, %d", x.x, x.y, got, e, x.want, x.e)
		}
	}
}

func TestAddOfModel(t *testing.T) {
	l := slices.Concat(bounds(), wrongBounds())
	for _, x := range l {
		for _, y := range l {
			got, e := extent.Add(x, y)
			if want, wantE := sum(x, y); got != want || e != wantE {
				t.Errorf("Add(%d, %d) returned %d, %d, not %d, %d", x, y, got, e, want, wantE)
			}
		}
	}
}

// P3.3

func TestOverlapExamples(t *testing.T) {
	for _, x := range []struct {
		name string
		a, b api.Interval
		want bool
	}{
		{"the same bytes", api.Interval{Off: 4, Size: 4}, api.Interval{Off: 4, Size: 4}, true},
		{"one byte", api.Interval{Off: 4, Size: 4}, api.Interval{Off: 7, Size: 4}, true},
		{"neighbours", api.Interval{Off: 4, Size: 4}, api.Interval{Off: 8, Size: 4}, false},
		{"apart", api.Interval{Off: 4, Size: 4}, api.Interval{Off: 16, Size: 4}, false},
		{"one in the other one", api.Interval{Off: 0, Size: 16}, api.Interval{Off: 4, Size: 4}, true},
		{"no bytes", api.Interval{Off: 4}, api.Interval{Off: 4}, false},
		{"no bytes in the middle", api.Interval{Off: 4}, api.Interval{Off: 0, Size: 8}, false},
		{"no bytes at the beginning", api.Interval{}, api.Interval{Off: 0, Size: 8}, false},
		{"the greatest interval and its last byte", api.Interval{Off: 0, Size: top}, api.Interval{Off: top - 1, Size: 1}, true},
		{"the greatest interval and its end", api.Interval{Off: 0, Size: top}, api.Interval{Off: top}, false},
		{"one that is not right with the same bytes", api.Interval{Off: 1, Size: top}, api.Interval{Off: 1, Size: 8}, false},
		{"two that are not right", api.Interval{Off: 1, Size: top}, api.Interval{Off: 1, Size: top}, false},
		{"a negative offset", api.Interval{Off: -8, Size: 16}, api.Interval{Off: 0, Size: 8}, false},
		{"a negative size", api.Interval{Off: 8, Size: -8}, api.Interval{Off: 0, Size: 16}, false},
	} {
		if got := extent.Overlap(x.a, x.b); got != x.want {
			t.Errorf("%s: Overlap(%v, %v) returned %t", x.name, x.a, x.b, got)
		}
		if got := extent.Overlap(x.b, x.a); got != x.want {
			t.Errorf("%s: Overlap(%v, %v) returned %t", x.name, x.b, x.a, got)
		}
	}
}

// nearby returns the intervals whose offsets are from from to from + 7, with sizes from -1 to 8.
func nearby(from int) []api.Interval {
	var l []api.Interval
	for off := from; off < from+8; off++ {
		for size := -1; size <= 8; size++ {
			l = append(l, api.Interval{Off: off, Size: size})
		}
	}
	return l
}

func TestOverlapByteByByte(t *testing.T) {
	for _, from := range []int{-3, 0, 1000, top - 12, top - 4} {
		for _, a := range nearby(from) {
			for _, b := range nearby(from) {
				want := false
				for at := from; at < from+16; at++ {
					want = want || has(a, at) && has(b, at)
				}
				if got := extent.Overlap(a, b); got != want {
					t.Errorf("Overlap(%v, %v) returned %t", a, b, got)
				}
			}
		}
	}
}

func TestOverlapOfWrongIntervals(t *testing.T) {
	others := slices.Concat(wrongIntervals(), nearby(0), nearby(top-8), []api.Interval{{Size: top}})
	for _, a := range wrongIntervals() {
		for _, b := range others {
			if extent.Overlap(a, b) || extent.Overlap(b, a) {
				t.Errorf("%v and %v overlap", a, b)
			}
		}
	}
}

func TestInsideExamples(t *testing.T) {
	for _, x := range []struct {
		a    api.Interval
		size int
		want bool
	}{
		{api.Interval{Off: 0, Size: 16}, 16, true},
		{api.Interval{Off: 0, Size: 17}, 16, false},
		{api.Interval{Off: 8, Size: 8}, 16, true},
		{api.Interval{Off: 9, Size: 8}, 16, false},
		{api.Interval{Off: 16, Size: 1}, 16, false},
		{api.Interval{Off: 16}, 16, true},
		{api.Interval{Off: 17}, 16, false},
		{api.Interval{}, 0, true},
		{api.Interval{Off: 1}, 0, false},
		{api.Interval{Size: 1}, 0, false},
		{api.Interval{}, -1, false},
		{api.Interval{}, math.MinInt, false},
		{api.Interval{Off: 4, Size: 4}, -16, false},
		{api.Interval{Size: top}, top, true},
		{api.Interval{Size: top}, top - 1, false},
		{api.Interval{Size: top}, math.MaxInt, true},
		{api.Interval{Off: top}, top, true},
		{api.Interval{Off: top}, top - 1, false},
		{api.Interval{Off: top, Size: 1}, top + 1, false},
		{api.Interval{Off: top + 1}, top + 1, false},
		{api.Interval{Off: -1, Size: 1}, 16, false},
		{api.Interval{Off: 8, Size: -1}, 16, false},
	} {
		if got := extent.Inside(x.a, x.size); got != x.want {
			t.Errorf("Inside(%v, %d) returned %t", x.a, x.size, got)
		}
	}
}

func TestInsideByteByByte(t *testing.T) {
	for _, from := range []int{-3, 0, 1000, top - 12, top - 4} {
		for _, a := range nearby(from) {
			for size := from - 2; size < from+18; size++ {
				want := right(a) && (a.Size > 0 || a.Off <= size)
				for at := from; at < from+16; at++ {
					want = want && (!has(a, at) || at < size)
				}
				if got := extent.Inside(a, size); got != want {
					t.Errorf("Inside(%v, %d) returned %t", a, size, got)
				}
			}
		}
	}
}

func TestInsideOfWrongIntervals(t *testing.T) {
	for _, a := range wrongIntervals() {
		for _, size := range []int{math.MinInt, -1, 0, 1, 16, top - 1, top, top + 1, 2 * top, math.MaxInt} {
			if extent.Inside(a, size) {
				t.Errorf("%v is inside of %d", a, size)
			}
		}
	}
}

// P3.4

// many returns n slots, all of which are right.
func many(n int) []api.Slot {
	s := make([]api.Slot, n)
	for i := range s {
		s[i] = api.Slot{Size: 1 << (i % 5), Align: 1 << (i % 4)}
	}
	return s
}

func TestSlotsOfOneSlot(t *testing.T) {
	sizes := []int{1, 2, 4, 8, 16}
	numbers := slices.Concat(alignments(), wrongAlignments(), bounds(), wrongBounds(), []int{6, 12, 24, 32, 64})
	for _, size := range numbers {
		for _, align := range numbers {
			want := api.ErrSize
			if slices.Contains(sizes, size) && slices.Contains(alignments(), align) {
				want = api.OK
			}
			if got := extent.Slots([]api.Slot{{Size: size, Align: align}}); got != want {
				t.Fatalf("Slots of {%d, %d} returned %d, not %d", size, align, got, want)
			}
		}
	}
}

func TestSlotsLimit(t *testing.T) {
	for _, x := range []struct {
		n    int
		want api.Errno
	}{{0, api.OK}, {1, api.OK}, {api.MaxSlots - 1, api.OK}, {api.MaxSlots, api.OK}, {api.MaxSlots + 1, api.ErrLimit}, {5000, api.ErrLimit}} {
		if got := extent.Slots(many(x.n)); got != x.want {
			t.Errorf("Slots of %d slots returned %d, not %d", x.n, got, x.want)
		}
	}
	if got := extent.Slots(nil); got != api.OK {
		t.Errorf("Slots(nil) returned %d", got)
	}
	if got := extent.Slots(make([]api.Slot, api.MaxSlots+1)); got != api.ErrLimit {
		t.Errorf("Slots of too many wrong slots returned %d, not ErrLimit", got)
	}
}

// A slot that is not right counts at every index.
func TestSlotsOfSeveral(t *testing.T) {
	for _, n := range []int{1, 3, api.MaxSlots} {
		for _, at := range []int{0, n / 2, n - 1} {
			for _, wrong := range []api.Slot{{}, {Size: 3, Align: 1}, {Size: 4, Align: 3}, {Size: 32, Align: 32}, {Size: 4, Align: 2 * api.MaxAlign}, {Size: -4, Align: 4}} {
				s := many(n)
				s[at] = wrong
				if got := extent.Slots(s); got != api.ErrSize {
					t.Errorf("Slots of %d slots with %v at %d returned %d", n, wrong, at, got)
				}
			}
		}
	}
}

func TestAlign(t *testing.T) {
	for _, x := range []struct {
		name string
		s    []api.Slot
		want int
	}{
		{"no slots", nil, 16},
		{"less than the least", []api.Slot{{Size: 8, Align: 8}}, 16},
		{"the least", []api.Slot{{Size: 1, Align: 16}}, 16},
		{"greater than the least", []api.Slot{{Size: 1, Align: 32}}, 32},
		{"the greatest", []api.Slot{{Size: 1, Align: api.MaxAlign}}, api.MaxAlign},
		{"the first one is the greatest", []api.Slot{{Size: 1, Align: 64}, {Size: 1, Align: 32}, {Size: 16, Align: 1}}, 64},
		{"the one in the middle is the greatest", []api.Slot{{Size: 1, Align: 1}, {Size: 1, Align: 128}, {Size: 16, Align: 32}}, 128},
		{"the last one is the greatest", []api.Slot{{Size: 1, Align: 1}, {Size: 1, Align: 32}, {Size: 16, Align: 64}}, 64},
		{"a wrong alignment", []api.Slot{{Size: 1, Align: 64}, {Size: 1, Align: 48}}, 16},
		{"only a wrong alignment", []api.Slot{{Size: 1, Align: 2 * api.MaxAlign}}, 16},
		{"a wrong size before", []api.Slot{{Size: 3, Align: 1}, {Size: 1, Align: 64}}, 16},
		{"a wrong size after", []api.Slot{{Size: 1, Align: 64}, {Size: 0, Align: 1}}, 16},
		{"as many slots as permitted", append(many(api.MaxSlots-1), api.Slot{Size: 1, Align: 4096}), 4096},
		{"too many slots", append(many(api.MaxSlots), api.Slot{Size: 1, Align: 4096}), 16},
	} {
		if got := extent.Align(x.s); got != x.want {
			t.Errorf("%s: Align returned %d, not %d", x.name, got, x.want)
		}
	}
	for _, align := range alignments() {
		if got, want := extent.Align([]api.Slot{{Size: 4, Align: align}}), max(align, 16); got != want {
			t.Errorf("Align of a slot with %d returned %d, not %d", align, got, want)
		}
	}
}

// P3.5

// fit is Fit as P3.5 defines it, for right arguments: it tries one offset after another.
func fit(used []api.Interval, from, size, align int) (int, api.Errno) {
	for at := from; at+size <= top; at++ {
		if at%align == 0 && free(used, at, size) {
			return at, api.OK
		}
	}
	return 0, api.ErrOverflow
}

func free(used []api.Interval, from, size int) bool {
	for at := from; at < from+size; at++ {
		if slices.ContainsFunc(used, func(u api.Interval) bool { return has(u, at) }) {
			return false
		}
	}
	return true
}

// checkFit compares Fit with fit, and checks that Fit leaves its argument, with spare capacity, as it is.
func checkFit(t *testing.T, used []api.Interval, from, size, align int) {
	t.Helper()
	all := append(slices.Clone(used), api.Interval{Off: 3, Size: 1}, api.Interval{Off: 1, Size: 1})
	before := slices.Clone(all)
	got, e := extent.Fit(all[:len(used)], from, size, align)
	if want, wantE := fit(used, from, size, align); got != want || e != wantE {
		t.Fatalf("Fit(%v, %d, %d, %d) returned %d, %d, not %d, %d", used, from, size, align, got, e, want, wantE)
	}
	if !slices.Equal(all, before) {
		t.Fatalf("Fit changed %v to %v", before, all)
	}
}

func TestFitExamples(t *testing.T) {
	for _, x := range []struct {
		name              string
		used              []api.Interval
		from, size, align int
		want              int
		e                 api.Errno
	}{
		{"the example", []api.Interval{{Off: 0, Size: 4}, {Off: 8, Size: 4}}, 0, 4, 4, 4, api.OK},
		{"the gap is too small", []api.Interval{{Off: 0, Size: 4}, {Off: 8, Size: 4}}, 0, 8, 4, 12, api.OK},
		{"the gap is not aligned", []api.Interval{{Off: 0, Size: 4}, {Off: 8, Size: 4}}, 0, 4, 8, 16, api.OK},
		{"nothing is used", nil, 5, 4, 4, 8, api.OK},
		{"nothing is used, and from is aligned", nil, 8, 4, 4, 8, api.OK},
		{"the used bytes are not ordered", []api.Interval{{Off: 8, Size: 4}, {Off: 4, Size: 4}, {Off: 0, Size: 4}}, 0, 4, 4, 12, api.OK},
		{"one used interval contains the next one", []api.Interval{{Off: 0, Size: 32}, {Off: 4, Size: 4}}, 0, 4, 4, 32, api.OK},
		{"used intervals overlap", []api.Interval{{Off: 0, Size: 6}, {Off: 4, Size: 6}, {Off: 8, Size: 6}}, 0, 1, 1, 14, api.OK},
		{"used twice", []api.Interval{{Off: 0, Size: 4}, {Off: 0, Size: 8}, {Off: 0, Size: 4}}, 0, 4, 4, 8, api.OK},
		{"from is inside of a used interval", []api.Interval{{Off: 0, Size: 16}}, 6, 4, 4, 16, api.OK},
		{"the gap before from does not count", []api.Interval{{Off: 0, Size: 4}, {Off: 8, Size: 4}}, 8, 4, 4, 12, api.OK},
		{"the gap begins before from", []api.Interval{{Off: 0, Size: 4}, {Off: 12, Size: 4}}, 6, 4, 4, 8, api.OK},
		{"the bytes before are used", []api.Interval{{Off: 0, Size: 8}}, 8, 8, 8, 8, api.OK},
		{"the bytes after are used", []api.Interval{{Off: 8, Size: 8}}, 0, 8, 8, 0, api.OK},
		{"used intervals without bytes", []api.Interval{{Off: 0}, {Off: 2}, {Off: 4}}, 0, 4, 4, 0, api.OK},
		{"used intervals without bytes hide none", []api.Interval{{Off: 2}, {Off: 0, Size: 4}, {Off: 0}, {Off: 4, Size: 4}}, 0, 4, 4, 8, api.OK},
		{"no bytes are needed", []api.Interval{{Off: 0, Size: 64}}, 3, 0, 4, 4, api.OK},
		{"no bytes are needed at the greatest bound", []api.Interval{{Off: 0, Size: top}}, top, 0, 1, top, api.OK},
		{"a great alignment", []api.Interval{{Off: 0, Size: 1}}, 0, 16, api.MaxAlign, api.MaxAlign, api.OK},
		{"the last byte", []api.Interval{{Off: 0, Size: top - 1}}, 0, 1, 1, top - 1, api.OK},
		{"all bytes", nil, 0, top, api.MaxAlign, 0, api.OK},
		{"all bytes, from 1 on", nil, 1, top, 1, 0, api.ErrOverflow},
		{"all bytes, of which one is used", []api.Interval{{Off: top - 1, Size: 1}}, 0, top, 1, 0, api.ErrOverflow},
		{"all bytes are used", []api.Interval{{Off: 0, Size: top}}, 0, 1, 1, 0, api.ErrOverflow},
		{"the rest is one byte too small", []api.Interval{{Off: 0, Size: top - 3}}, 0, 4, 1, 0, api.ErrOverflow},
		{"the rest is great enough", []api.Interval{{Off: 0, Size: top - 4}}, 0, 4, 1, top - 4, api.OK},
		{"from cannot be rounded up", nil, top, 0, 2, 0, api.ErrOverflow},
		{"the end of a used interval cannot be rounded up", []api.Interval{{Off: 0, Size: top}}, 0, 1, 2, 0, api.ErrOverflow},
		{"no aligned offset is left", []api.Interval{{Off: 0, Size: top - 14}}, 0, 8, 16, 0, api.ErrOverflow},
		{"the last aligned offset", []api.Interval{{Off: 0, Size: top - 15}}, 0, 8, 16, top - 15, api.OK},
	} {
		before := slices.Clone(x.used)
		if got, e := extent.Fit(x.used, x.from, x.size, x.align); got != x.want || e != x.e {
			t.Errorf("%s: Fit(%v, %d, %d, %d) returned %d, %d, not %d, %d", x.name, x.used, x.from, x.size, x.align, got, e, x.want, x.e)
		}
		if !slices.Equal(x.used, before) {
			t.Errorf("%s: Fit changed %v to %v", x.name, before, x.used)
		}
	}
}

func TestFitOfWrongArguments(t *testing.T) {
	fitting := []api.Interval{{Off: 8, Size: 4}}
	full := []api.Interval{{Size: top}}
	check := func(used []api.Interval, from, size, align int) {
		t.Helper()
		if got, e := extent.Fit(used, from, size, align); got != 0 || e != api.ErrRange {
			t.Errorf("Fit(%v, %d, %d, %d) returned %d, %d", used, from, size, align, got, e)
		}
	}
	for _, used := range [][]api.Interval{nil, fitting, full} {
		for _, n := range wrongBounds() {
			check(used, n, 4, 4)
			check(used, 0, n, 4)
			check(used, top, n, 4)
			check(used, n, top, 4)
		}
		for _, align := range wrongAlignments() {
			check(used, 0, 4, align)
			check(used, top, top, align)
		}
		for _, wrong := range wrongIntervals() {
			// A wrong element counts wherever it is, and also where the result does not depend on it.
			check(append([]api.Interval{wrong}, used...), 0, 4, 4)
			check(append(slices.Clone(used), wrong), 0, 4, 4)
			check(slices.Concat(used, []api.Interval{wrong}, used), top, top, 2)
			check(append(slices.Clone(used), wrong), 0, 0, 1)
		}
	}
}

// All lists of three used intervals from a few, in every order.
func TestFitOfAllSmallLists(t *testing.T) {
	var few []api.Interval
	for _, off := range []int{0, 2, 3, 6} {
		for _, size := range []int{0, 1, 3, 5} {
			few = append(few, api.Interval{Off: off, Size: size})
		}
	}
	for _, a := range few {
		for _, b := range few {
			for _, c := range few {
				for size := range 4 {
					checkFit(t, []api.Interval{a, b, c}, 1, size, 1)
					checkFit(t, []api.Interval{a, b, c}, 0, size, 4)
				}
			}
		}
	}
}

func TestFitOfModel(t *testing.T) {
	m := mix(5)
	for range 20000 {
		// Next to the greatest bound the search ends early, too.
		base := []int{0, 0, top - 40, top - 70}[m.below(4)]
		used := make([]api.Interval, m.below(12))
		for i := range used {
			off := base + m.below(40)
			used[i] = api.Interval{Off: off, Size: m.below(min(9, top-off+1))}
		}
		checkFit(t, used, base+m.below(40), m.below(18), 1<<m.below(6))
	}
}

// The offset of Fit is from, or the end of a used interval, rounded up.
func TestFitBeginsAtAnEnd(t *testing.T) {
	m := mix(6)
	for range 5000 {
		used := make([]api.Interval, m.below(30))
		for i := range used {
			used[i] = api.Interval{Off: m.below(top / 2), Size: m.below(top / 2)}
		}
		from, size, align := m.below(top), m.below(1000), alignments()[m.below(25)]
		at, e := extent.Fit(used, from, size, align)
		ends := []int{from}
		for _, u := range used {
			ends = append(ends, u.Off+u.Size)
		}
		var candidates []int
		for _, n := range ends {
			n = (n + align - 1) / align * align
			if n >= from && n+size <= top && !slices.ContainsFunc(used, func(u api.Interval) bool { return meets(u, n, size) }) {
				candidates = append(candidates, n)
			}
		}
		if len(candidates) == 0 {
			if at != 0 || e != api.ErrOverflow {
				t.Fatalf("Fit(%v, %d, %d, %d) returned %d, %d", used, from, size, align, at, e)
			}
			continue
		}
		if want := slices.Min(candidates); at != want || e != api.OK {
			t.Fatalf("Fit(%v, %d, %d, %d) returned %d, %d, not %d", used, from, size, align, at, e, want)
		}
	}
}

// meets reports whether two intervals have a byte in common: neither ends where or before the other one begins.
func meets(u api.Interval, at, size int) bool {
	return u.Size > 0 && size > 0 && u.Off < at+size && at < u.Off+u.Size
}

// The order of the used intervals does not count, and many of them fit one after another.
func TestFitOfManySlots(t *testing.T) {
	m := mix(7)
	var used []api.Interval
	for i := range 2 * api.MaxSlots {
		at, e := extent.Fit(used, 16, 8, 8)
		if want := 16 + 8*i; at != want || e != api.OK {
			t.Fatalf("slot %d begins at %d, %d, not at %d", i, at, e, want)
		}
		used = slices.Insert(used, m.below(len(used)+1), api.Interval{Off: at, Size: 8})
	}
}
