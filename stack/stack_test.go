package stack_test

import (
	"bytes"
	"math"
	"slices"
	"testing"

	"spillframe/api"
	"spillframe/stack"
)

// far has numbers that no stack can have, also such as a narrower type or a sum that wraps around takes for small ones.
var far = []int{math.MinInt, math.MinInt + 1, math.MinInt + 16, -1 << 32, -1<<32 + 8, -1 << 31, -api.MaxStack, -17, -16, -8, -4, -2, -1,
	api.MaxStack + 1, api.MaxBound - 16, api.MaxBound - 1, api.MaxBound, 1 << 31, 1 << 32, 1<<32 + 1, 1<<32 + 8, 1 << 62, math.MaxInt - 16, math.MaxInt - 8, math.MaxInt - 1, math.MaxInt}

// chance is a generator without a pattern that the functions have.
type chance uint64

// below returns a number from 0 to n - 1.
func (c *chance) below(n int) int {
	*c = *c*6364136223846793005 + 1442695040888963407
	return int(uint64(*c) >> 33 % uint64(n))
}

func (c *chance) value() api.Value {
	word := func() uint64 { return uint64(c.below(1<<31))<<33 ^ uint64(c.below(1<<31))<<11 ^ uint64(c.below(1<<31)) }
	return api.Value{Lo: word(), Hi: word()}
}

// filled returns a stack of size bytes with any contents; of n bytes n - 1 are used.
func (c *chance) filled(size, sp, n int) api.Stack {
	s := api.Stack{SP: sp}
	for range size {
		s.Bytes = append(s.Bytes, byte(c.below(256)))
		s.Used = append(s.Used, c.below(n) != 0)
	}
	return roomy(s)
}

const spare = 24 // elements after the end of a slice

// roomy returns s with spare capacity, all of which is set, in slices of its own.
func roomy(s api.Stack) api.Stack {
	b := append(slices.Clone(s.Bytes), bytes.Repeat([]byte{0xA5}, spare)...)
	u := append(slices.Clone(s.Used), slices.Repeat([]bool{true}, spare)...)
	return api.Stack{Bytes: b[:len(s.Bytes)], Used: u[:len(s.Used)], SP: s.SP}
}

// whole returns a copy of s with the spare capacity.
func whole(s api.Stack) api.Stack {
	return api.Stack{Bytes: slices.Clone(s.Bytes[:cap(s.Bytes)]), Used: slices.Clone(s.Used[:cap(s.Used)]), SP: s.SP}
}

func same(s, t api.Stack) bool {
	return bytes.Equal(s.Bytes, t.Bytes) && slices.Equal(s.Used, t.Used) && s.SP == t.SP
}

// spoil changes every byte and mark of s, with the spare capacity.
func spoil(s api.Stack) {
	for i := range s.Bytes[:cap(s.Bytes)] {
		s.Bytes[:cap(s.Bytes)][i] ^= 0xFF
	}
	for i := range s.Used[:cap(s.Used)] {
		s.Used[:cap(s.Used)][i] = !s.Used[:cap(s.Used)][i]
	}
}

// pure calls f with s and returns the stack that f returns; neither f nor a change of that stack may change s.
func pure(t *testing.T, s api.Stack, f func(s api.Stack) api.Stack) api.Stack {
	t.Helper()
	before := whole(s)
	result := f(s)
	if !same(whole(s), before) {
		t.Fatalf("the argument %v was changed to %v", before, whole(s))
	}
	kept := api.Stack{Bytes: slices.Clone(result.Bytes), Used: slices.Clone(result.Used), SP: result.SP}
	spoil(result)
	if !same(whole(s), before) {
		t.Fatalf("the result shares memory with the argument %v", before)
	}
	return kept
}

func TestCheck(t *testing.T) {
	for _, x := range []struct {
		bytes, used, sp int
		want            bool
	}{
		{0, 0, 0, true}, {0, 0, 1, false}, {0, 0, -1, false}, {1, 1, 0, true}, {1, 1, 1, true}, {1, 1, 2, false}, {1, 0, 0, false}, {0, 1, 0, false},
		{32, 32, 0, true}, {32, 32, 7, true}, {32, 32, 32, true}, {32, 32, 33, false}, {32, 32, -1, false}, {32, 31, 7, false}, {31, 32, 7, false}, {32, 31, 32, false}, {31, 32, 32, false},
		{api.MaxStack, api.MaxStack, 0, true}, {api.MaxStack, api.MaxStack, api.MaxStack, true}, {api.MaxStack, api.MaxStack, api.MaxStack + 1, false},
		{api.MaxStack + 1, api.MaxStack + 1, 0, false}, {api.MaxStack + 1, api.MaxStack + 1, api.MaxStack, false}, {api.MaxStack, api.MaxStack + 1, 0, false}, {api.MaxStack + 1, api.MaxStack, 0, false},
	} {
		s := api.Stack{Bytes: make([]byte, x.bytes), Used: make([]bool, x.used), SP: x.sp}
		if stack.Check(s) != x.want {
			t.Errorf("Check of %d bytes, %d marks and the SP %d is not %v", x.bytes, x.used, x.sp, x.want)
		}
	}
	for _, sp := range far {
		if stack.Check(api.Stack{Bytes: make([]byte, 8), Used: make([]bool, 8), SP: sp}) {
			t.Errorf("Check permits the SP %d", sp)
		}
	}
	if !stack.Check(api.Stack{Bytes: []byte{}, Used: nil}) {
		t.Error("an empty slice differs from nil")
	}
}

func TestCheckIsPure(t *testing.T) {
	s := new(chance).filled(20, 8, 2)
	before := whole(s)
	if stack.Check(s); !same(whole(s), before) {
		t.Error("Check changes its argument")
	}
}

// alignments returns all alignments.
func alignments() []int {
	var l []int
	for n := 1; n <= api.MaxAlign; n *= 2 {
		l = append(l, n)
	}
	return l
}

func TestNew(t *testing.T) {
	sizes := []int{100, 1000, api.MaxStack / 2, api.MaxStack - 17, api.MaxStack - 16, api.MaxStack - 1, api.MaxStack}
	for size := range 67 {
		sizes = append(sizes, size)
	}
	for _, size := range sizes {
		for _, align := range alignments() {
			sp := 0
			for sp+align <= size {
				sp += align
			}
			s, e := stack.New(size, align)
			if e != api.OK || len(s.Bytes) != size || len(s.Used) != size || s.SP != sp || !stack.Check(s) {
				t.Fatalf("New(%d, %d) returned %d and %d bytes, %d marks, the SP %d", size, align, e, len(s.Bytes), len(s.Used), s.SP)
			}
			if bytes.Count(s.Bytes, []byte{0}) != size || slices.Contains(s.Used, true) {
				t.Fatalf("New(%d, %d) has bytes that are not 0, or used", size, align)
			}
		}
	}
	s, _ := stack.New(16, 16)
	spoil(s)
	if s, _ = stack.New(16, 16); s.Bytes[0] != 0 || s.Used[0] {
		t.Error("two stacks share memory")
	}
}

func TestNewErrors(t *testing.T) {
	wrong := func(size, align int) {
		if s, e := stack.New(size, align); e != api.ErrRange || s.Bytes != nil || s.Used != nil || s.SP != 0 {
			t.Errorf("New(%d, %d) returned %d and a stack of %d bytes", size, align, e, len(s.Bytes))
		}
	}
	for _, size := range far {
		wrong(size, 16)
		wrong(size, 0)
	}
	for _, align := range append(slices.Clone(far), 0, 3, 5, 6, 7, 9, 12, 15, 17, 24, 48, api.MaxAlign-1, api.MaxAlign+1, api.MaxAlign*2, api.MaxAlign*3/2) {
		if !slices.Contains(alignments(), align) {
			wrong(0, align)
			wrong(32, align)
			wrong(api.MaxStack, align)
			wrong(-1, align)
		}
	}
}

// numbers returns the numbers from -2 to top, and the far ones.
func numbers(top int) []int {
	l := slices.Clone(far)
	for n := -2; n <= top; n++ {
		l = append(l, n)
	}
	return l
}

// stacks calls f with stacks of a few sizes, with every SP and with all, most, half and none of the bytes used.
func stacks(f func(s api.Stack)) {
	c := chance(1)
	for _, size := range []int{0, 1, 2, 3, 5, 8, 16, 17, 20, 33} {
		for sp := range size + 1 {
			for _, n := range []int{1 << 30, 30, 2, 1} {
				f(c.filled(size, sp, n))
			}
		}
	}
}

func TestPushAndPop(t *testing.T) {
	stacks(func(s api.Stack) {
		for _, size := range numbers(len(s.Bytes) + 2) {
			push(t, s, size)
			pop(t, s, size)
		}
	})
}

// push compares Push, the function and the method, with the model, and returns what the function returns.
func push(t *testing.T, s api.Stack, size int) api.Stack {
	t.Helper()
	m := modelOf(s)
	want := m.push(size)
	inPlace(t, s, want, &m, func(y *stack.Memory) api.Errno { return y.Push(size) })
	return compare(t, s, want, &m, func(s api.Stack) (api.Stack, api.Errno) { return stack.Push(s, size) })
}

// pop compares Pop, the function and the method, with the model, and returns what the function returns.
func pop(t *testing.T, s api.Stack, size int) api.Stack {
	t.Helper()
	m := modelOf(s)
	want := m.pop(size)
	inPlace(t, s, want, &m, func(y *stack.Memory) api.Errno { return y.Pop(size) })
	return compare(t, s, want, &m, func(s api.Stack) (api.Stack, api.Errno) { return stack.Pop(s, size) })
}

// compare calls f with s, returns the stack that f returns, and expects that it is m, and the error the wanted one.
func compare(t *testing.T, s api.Stack, want api.Errno, m *model, f func(s api.Stack) (api.Stack, api.Errno)) api.Stack {
	t.Helper()
	var e api.Errno
	r := pure(t, s, func(s api.Stack) (r api.Stack) { r, e = f(s); return r })
	if e != want || !same(r, m.stack()) {
		t.Fatalf("%v became %v with the error %d, not %v with the error %d", s, r, e, m.stack(), want)
	}
	return r
}

// inPlace calls a method with a memory of a copy of s, and expects that this copy becomes m, without its spare capacity, and that the error is the wanted one.
func inPlace(t *testing.T, s api.Stack, want api.Errno, m *model, method func(y *stack.Memory) api.Errno) {
	t.Helper()
	r := roomy(s)
	y := stack.Memory{Stack: r}
	e := method(&y)
	r.SP = y.SP
	if e != want || !same(r, m.stack()) || !same(y.Stack, r) {
		t.Fatalf("in place %v became %v with the error %d, not %v with the error %d", s, r, e, m.stack(), want)
	}
	if fresh := roomy(r); !same(whole(r), whole(fresh)) {
		t.Fatalf("a method changed the spare capacity of %v", s)
	}
}

func TestLoad(t *testing.T) {
	stacks(func(s api.Stack) {
		for _, off := range numbers(len(s.Bytes) + 1) {
			for _, size := range numbers(18) {
				load(t, s, off, size)
			}
		}
	})
}

// load compares Load with the model.
func load(t *testing.T, s api.Stack, off, size int) {
	t.Helper()
	m := modelOf(s)
	want, defined, wrong := m.load(off, size)
	before := whole(s)
	v, ok, e := stack.Load(s, off, size)
	if v != want || ok != defined || e != wrong {
		t.Fatalf("Load(%v, %d, %d) returned %v, %v and %d, not %v, %v and %d", s, off, size, v, ok, e, want, defined, wrong)
	}
	if !same(whole(s), before) {
		t.Fatalf("Load(%v, %d, %d) changed its argument", before, off, size)
	}
}

func TestStore(t *testing.T) {
	c := chance(2)
	stacks(func(s api.Stack) {
		for _, off := range numbers(len(s.Bytes) + 1) {
			for _, size := range numbers(18) {
				store(t, s, off, size, c.value())
			}
		}
	})
}

// store compares Store, the function and the method, with the model, and returns what the function returns.
func store(t *testing.T, s api.Stack, off, size int, v api.Value) api.Stack {
	t.Helper()
	m := modelOf(s)
	want := m.store(off, size, v)
	inPlace(t, s, want, &m, func(y *stack.Memory) api.Errno { return y.Store(off, size, v) })
	return compare(t, s, want, &m, func(s api.Stack) (api.Stack, api.Errno) { return stack.Store(s, off, size, v) })
}

func TestMove(t *testing.T) {
	c := chance(3)
	for _, size := range []int{0, 1, 4, 19, 40} {
		for _, sp := range []int{0, size / 4, size / 2, size} {
			for _, n := range []int{1 << 30, 30, 1} {
				s := c.filled(size, sp, n)
				for _, length := range []int{1, 2, 4, 8, 16} {
					everyMove(t, s, length)
				}
			}
		}
	}
}

// everyMove moves from and to all places of s, so that both overlap in all ways, and from and to places beyond its ends.
func everyMove(t *testing.T, s api.Stack, size int) {
	t.Helper()
	for to := -1; to <= len(s.Bytes)-s.SP+1; to++ {
		for from := -1; from <= len(s.Bytes)-s.SP+1; from++ {
			move(t, s, to, from, size)
		}
	}
}

func TestMoveOfWrongNumbers(t *testing.T) {
	c := chance(4)
	for _, n := range []int{1 << 30, 1} {
		s := c.filled(40, 4, n)
		for _, x := range numbers(18) {
			move(t, s, 0, 0, x)
			move(t, s, 17, 3, x)
			for _, size := range []int{1, 8, 16, 3, 0} {
				move(t, s, x, 2, size)
				move(t, s, 2, x, size)
				move(t, s, x, x, size)
				move(t, s, x, -1, size)
			}
		}
	}
}

// move compares Move, the function and the method, with the model, and returns what the function returns.
func move(t *testing.T, s api.Stack, to, from, size int) api.Stack {
	t.Helper()
	m := modelOf(s)
	defined, want := m.move(to, from, size)
	inPlace(t, s, want, &m, func(y *stack.Memory) api.Errno {
		ok, e := y.Move(to, from, size)
		if ok != defined {
			t.Fatalf("in place Move(%v, %d, %d, %d) returned %v, not %v", s, to, from, size, ok, defined)
		}
		return e
	})
	var ok bool
	r := compare(t, s, want, &m, func(s api.Stack) (r api.Stack, e api.Errno) { r, ok, e = stack.Move(s, to, from, size); return r, e })
	if ok != defined {
		t.Fatalf("Move(%v, %d, %d, %d) returned %v, not %v", s, to, from, size, ok, defined)
	}
	return r
}

func TestRandomSequences(t *testing.T) {
	c := chance(5)
	for range 400 {
		s, _ := stack.New(c.below(80), []int{1, 8, 16, 32}[c.below(4)])
		for range 60 {
			s = c.call(t, s)
		}
	}
}

// call calls one of the functions with arguments that are often right, and returns the new stack.
func (c *chance) call(t *testing.T, s api.Stack) api.Stack {
	room := len(s.Bytes) - s.SP
	size := []int{1, 2, 4, 8, 16, 16, 8, 4, 3}[c.below(9)]
	place := func() int { return c.below(max(room-size, 0)+2) - c.below(40)/39 }
	switch c.below(8) {
	case 0, 1:
		return push(t, s, c.below(s.SP+2)-c.below(20)/19)
	case 2:
		return pop(t, s, c.below(room+2)-c.below(20)/19)
	case 3, 4, 5:
		return store(t, s, place(), size, c.value())
	case 6:
		load(t, s, place(), size)
		return s
	default:
		return move(t, s, place(), place(), size)
	}
}

func TestGreatestStack(t *testing.T) {
	s, _ := stack.New(api.MaxStack, 16)
	s, e := stack.Push(s, api.MaxStack)
	if e != api.OK || s.SP != 0 {
		t.Fatalf("Push of the whole stack returned %d and the SP %d", e, s.SP)
	}
	v := api.Value{Lo: 0x0102030405060708, Hi: 0x090A0B0C0D0E0F10}
	for _, off := range []int{0, api.MaxStack - 16} {
		if s, e = stack.Store(s, off, 16, v); e != api.OK {
			t.Fatalf("Store at %d returned %d", off, e)
		}
		if w, ok, e := stack.Load(s, off, 16); w != v || !ok || e != api.OK {
			t.Errorf("Load at %d returned %v, %v and %d", off, w, ok, e)
		}
	}
	if _, e = stack.Store(s, api.MaxStack-15, 16, v); e != api.ErrRange {
		t.Errorf("Store across the end returned %d", e)
	}
	if s, e = stack.Pop(s, api.MaxStack); e != api.OK || s.SP != api.MaxStack || slices.Index(s.Used, false) != 16 {
		t.Errorf("Pop of the whole stack returned %d and the SP %d", e, s.SP)
	}
	if s, e = stack.Push(s, api.MaxStack); e != api.OK || slices.Contains(s.Used, true) || s.Bytes[0] != 8 {
		t.Errorf("the second Push of the whole stack returned %d", e)
	}
}

// TestWrongStacks has only R1 and R2 to look for: chapter 9 promises nothing else about such stacks.
func TestWrongStacks(t *testing.T) {
	var wrong []api.Stack
	for _, sp := range append(slices.Clone(far), 0, 8, 9, 40, 41) {
		for _, lengths := range [][2]int{{0, 0}, {0, 40}, {40, 0}, {40, 24}, {24, 40}, {40, 40}} {
			s := api.Stack{Bytes: make([]byte, lengths[0]), Used: slices.Repeat([]bool{true}, lengths[1]), SP: sp}
			wrong = append(wrong, s)
		}
	}
	wrong = append(wrong, api.Stack{Bytes: make([]byte, api.MaxStack+1), Used: make([]bool, api.MaxStack+1), SP: 40})
	for _, s := range wrong {
		for _, n := range append(slices.Clone(far), 0, 1, 8, 16, 32, 40) {
			callAll(t, s, n)
		}
	}
}

// callAll calls each function and each method with s and n.
func callAll(t *testing.T, s api.Stack, n int) {
	before := whole(s)
	y := stack.Memory{Stack: whole(s)}
	y.Push(n)
	y.Pop(n)
	for _, size := range []int{1, 16, n} {
		y.Store(n, size, api.Value{Lo: 1, Hi: 1})
		y.Move(n, 0, size)
		y.Move(0, n, size)
	}
	stack.Push(s, n)
	stack.Pop(s, n)
	for _, size := range []int{1, 16, n} {
		stack.Load(s, n, size)
		stack.Store(s, n, size, api.Value{Lo: 1, Hi: 1})
		stack.Move(s, n, 0, size)
		stack.Move(s, 0, n, size)
	}
	if !same(whole(s), before) {
		t.Fatalf("a function changed a wrong stack of %d bytes", len(s.Bytes))
	}
}

func TestExamples(t *testing.T) {
	s, e := stack.New(32, 16)
	if e != api.OK || s.SP != 32 {
		t.Fatalf("New returned %d and the SP %d", e, s.SP)
	}
	if s, e = stack.Push(s, 16); e != api.OK || s.SP != 16 {
		t.Errorf("Push returned %d and the SP %d", e, s.SP)
	}
}

// TestConsequences follows the consequences of the chapter without the model.
func TestConsequences(t *testing.T) {
	s := new(chance).filled(40, 20, 3)
	v := api.Value{Lo: 0x8182838485868788, Hi: 0x898A8B8C8D8E8F90}
	for size, want := range map[int]api.Value{1: {Lo: 0x88}, 2: {Lo: 0x8788}, 4: {Lo: 0x85868788}, 8: {Lo: v.Lo}, 16: v} {
		r, _ := stack.Store(s, 3, size, v)
		if w, ok, e := stack.Load(r, 3, size); w != want || !ok || e != api.OK {
			t.Errorf("Load of %d bytes after Store returned %v, %v and %d", size, w, ok, e)
		}
		if !bytes.Equal(r.Bytes[:23], s.Bytes[:23]) || !bytes.Equal(r.Bytes[23+size:], s.Bytes[23+size:]) || !slices.Equal(r.Used[:23], s.Used[:23]) || !slices.Equal(r.Used[23+size:], s.Used[23+size:]) {
			t.Errorf("Store of %d bytes changed other bytes", size)
		}
	}
	for size := range 21 {
		r, _ := stack.Push(s, size)
		r, _ = stack.Pop(r, size)
		if r.SP != 20 || !bytes.Equal(r.Bytes[20:], s.Bytes[20:]) || !slices.Equal(r.Used[20:], s.Used[20:]) {
			t.Errorf("Push and Pop of %d bytes changed bytes above the frame", size)
		}
	}
}
