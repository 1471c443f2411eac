package sircode_test

import (
	"bytes"
	"math"
	"slices"
	"testing"

	"spillframe/api"
	"spillframe/sir"
	"spillframe/sircode"
)

func program(funcs ...api.Func) api.Program {
	return api.Program{Funcs: funcs}
}

// code returns a function without slots and parameters.
func code(l ...api.Instr) api.Func {
	return api.Func{Code: l}
}

func repeated[T any](n int, x T) []T {
	return slices.Repeat([]T{x}, n)
}

var ret = api.Instr{Op: api.Return}

func cloned(p api.Program) api.Program {
	var out api.Program
	for _, f := range p.Funcs {
		f.Slots, f.Code = slices.Clone(f.Slots), slices.Clone(f.Code)
		out.Funcs = append(out.Funcs, f)
	}
	return out
}

// roomy returns a copy of p with spare capacity in which the lists would go on.
func roomy(p api.Program) api.Program {
	out := cloned(p)
	for i, f := range out.Funcs {
		f.Slots = append(f.Slots, api.Slot{Size: 4, Align: 1 << 20}, api.Slot{Size: 3, Align: 3})[:len(f.Slots)]
		f.Code = append(f.Code, ret, api.Instr{Op: 99, A: 7})[:len(f.Code)]
		out.Funcs[i] = f
	}
	return api.Program{Funcs: append(out.Funcs, code(ret), api.Func{Params: -1})[:len(out.Funcs)]}
}

// whole returns a copy of all memory of p.
func whole(p api.Program) api.Program {
	out := api.Program{Funcs: p.Funcs[:cap(p.Funcs)]}
	out = cloned(out)
	for i, f := range p.Funcs[:cap(p.Funcs)] {
		out.Funcs[i].Slots = slices.Clone(f.Slots[:cap(f.Slots)])
		out.Funcs[i].Code = slices.Clone(f.Code[:cap(f.Code)])
	}
	return out
}

// checkEncode calls Encode with a copy of p that has spare capacity.
func checkEncode(t *testing.T, name string, p api.Program, want []byte, wantE api.Errno) {
	t.Helper()
	r := roomy(p)
	before := whole(r)
	got, e := sircode.Encode(r)
	if !bytes.Equal(got, want) || e != wantE {
		t.Fatalf("%s: Encode returned % x, %d, not % x, %d", name, got, e, want, wantE)
	}
	if !equal(whole(r), before) {
		t.Fatalf("%s: Encode changed its argument", name)
	}
}

// checkRead calls a function with a copy of b that has spare capacity, and checks that it leaves all of the copy's memory as it is.
func checkRead(t *testing.T, name string, b []byte, call func(b []byte)) {
	t.Helper()
	r := append(slices.Clone(b), 0, 23, 0xFF, 0x80)[:len(b)]
	before := slices.Clone(r[:cap(r)])
	call(r)
	if !bytes.Equal(r[:cap(r)], before) {
		t.Fatalf("%s changed its argument % x", name, b)
	}
}

// checkBytes compares Parse, Decode and Functions with the model, and returns the error of Parse.
func checkBytes(t *testing.T, b []byte) api.Errno {
	t.Helper()
	wantP, wantL, wantE := parsed(b)
	checkRead(t, "Parse", b, func(b []byte) {
		if got, e := sircode.Parse(b); !equal(got, wantP) || e != wantE {
			t.Fatalf("Parse(% x) returned %v, %d, not %v, %d", b, got, e, wantP, wantE)
		}
	})
	checkRead(t, "Functions", b, func(b []byte) {
		if got, e := sircode.Functions(b); !equalLists(got, wantL) || e != wantE {
			t.Fatalf("Functions(% x) returned % x, %d, not % x, %d", b, got, e, wantL, wantE)
		}
	})
	decodedE := wantE
	if decodedE == api.OK {
		decodedE = sir.Check(wantP)
	}
	checkRead(t, "Decode", b, func(b []byte) {
		got, e := sircode.Decode(b)
		if e != decodedE || e == api.OK && !equal(got, wantP) || e != api.OK && !zero(got) {
			t.Fatalf("Decode(% x) returned %v, %d, not %d", b, got, e, decodedE)
		}
	})
	if decodedE == api.OK {
		checkEncode(t, "what Decode returned", wantP, b, api.OK)
	}
	return wantE
}

// P6.1

func TestExample(t *testing.T) {
	want := []byte{'S', 'I', 'R', '1', 1, 4, 0, 0, 1, 23, 0x7E, 0x9B, 0x7B, 0xDF}
	checkEncode(t, "the example", program(code(ret)), want, api.OK)
	checkBytes(t, want)
	if p, e := sircode.Decode(want); e != api.OK || !equal(p, program(code(ret))) {
		t.Errorf("Decode of the example returned %v, %d", p, e)
	}
}

// The operands are all different, and those of more than one byte are there where an operation can have them.
func TestFormatOfOperations(t *testing.T) {
	for _, x := range []struct {
		instr api.Instr
		want  []byte
	}{
		{api.Instr{Op: api.Const, A: 7, Imm: 300}, []byte{0, 7, 0xAC, 2}},
		{api.Instr{Op: api.Const}, []byte{0, 0, 0}},
		{api.Instr{Op: api.Const, A: 1, Imm: 1<<31 - 1}, []byte{0, 1, 0xFF, 0xFF, 0xFF, 0xFF, 7}},
		{api.Instr{Op: api.Const, A: 1, Imm: 1 << 31}, []byte{0, 1, 0x80, 0x80, 0x80, 0x80, 8}},
		{api.Instr{Op: api.Const, A: 1, Imm: math.MaxUint64}, []byte{0, 1, 0xFF, 0xFF, 0xFF, 0xFF, 0xFF, 0xFF, 0xFF, 0xFF, 0xFF, 1}},
		{api.Instr{Op: api.Copy, A: 5, B: 6}, []byte{1, 5, 6}},
		{api.Instr{Op: api.Add, A: 5, B: 6, C: 7}, []byte{2, 5, 6, 7}},
		{api.Instr{Op: api.Sub, A: 5, B: 6, C: 7}, []byte{3, 5, 6, 7}},
		{api.Instr{Op: api.Mul, A: 5, B: 6, C: 7}, []byte{4, 5, 6, 7}},
		{api.Instr{Op: api.Div, A: 5, B: 6, C: 7}, []byte{5, 5, 6, 7}},
		{api.Instr{Op: api.And, A: 5, B: 6, C: 7}, []byte{6, 5, 6, 7}},
		{api.Instr{Op: api.Or, A: 5, B: 6, C: 7}, []byte{7, 5, 6, 7}},
		{api.Instr{Op: api.Xor, A: 5, B: 6, C: 7}, []byte{8, 5, 6, 7}},
		{api.Instr{Op: api.Less, A: 5, B: 6, C: 7}, []byte{9, 5, 6, 7}},
		{api.Instr{Op: api.Equal, A: 5, B: 6, C: 7}, []byte{10, 5, 6, 7}},
		{api.Instr{Op: api.Pair, A: 5, B: 6, C: 7}, []byte{11, 5, 6, 7}},
		{api.Instr{Op: api.High, A: 5, B: 6}, []byte{12, 5, 6}},
		{api.Instr{Op: api.In, A: 5}, []byte{13, 5}},
		{api.Instr{Op: api.Out, A: 5}, []byte{14, 5}},
		{api.Instr{Op: api.Load, A: 5, B: 300}, []byte{15, 5, 0xAC, 2}},
		{api.Instr{Op: api.Store, A: 300, B: 5}, []byte{16, 0xAC, 2, 5}},
		{api.Instr{Op: api.Move, A: 300, B: 128}, []byte{17, 0xAC, 2, 0x80, 1}},
		{api.Instr{Op: api.Arg, A: 5, B: 6}, []byte{18, 5, 6}},
		{api.Instr{Op: api.Param, A: 5, B: 6}, []byte{19, 5, 6}},
		{api.Instr{Op: api.Jump, A: 300}, []byte{20, 0xAC, 2}},
		{api.Instr{Op: api.Branch, A: 5, B: 300}, []byte{21, 5, 0xAC, 2}},
		{api.Instr{Op: api.Call, A: 1}, []byte{22, 1}},
		{api.Instr{Op: api.Return}, []byte{23}},
		{api.Instr{Op: api.Trap, Imm: 300}, []byte{24, 0xAC, 2}},
		{api.Instr{Op: api.Trap, Imm: math.MaxUint64}, []byte{24, 0xFF, 0xFF, 0xFF, 0xFF, 0xFF, 0xFF, 0xFF, 0xFF, 0xFF, 1}},
	} {
		f := api.Func{Params: 8, Slots: repeated(301, api.Slot{Size: 8, Align: 2}), Code: append([]api.Instr{x.instr}, repeated(300, ret)...)}
		want := sealed(numbers(2), described(raw(0, 0, 1, 23)),
			described(raw(8, 0xAD, 2), repeatedBytes(301, 8, 1), raw(0xAD, 2), x.want, repeatedBytes(300, 23)))
		p := program(code(ret), f)
		checkEncode(t, "one operation", p, want, api.OK)
		checkBytes(t, want)
		if got, e := sircode.Parse(want); e != api.OK || !equal(got, p) {
			t.Errorf("Parse of the bytes of %v returned %v, %d", x.instr, got, e)
		}
	}
}

// raw returns these bytes, which are written as they are.
func raw(l ...byte) []byte {
	return l
}

func repeatedBytes(n int, l ...byte) []byte {
	return bytes.Repeat(l, n)
}

func TestFormatOfSlots(t *testing.T) {
	for _, size := range []int{1, 2, 4, 8, 16} {
		for exponent := range 25 {
			f := api.Func{Slots: []api.Slot{{Size: size, Align: 1 << exponent}, {Size: 4, Align: 64}}, Code: []api.Instr{ret}}
			want := sealed(numbers(1), described(numbers(0, 2, size, exponent, 4, 6, 1, 23)))
			checkEncode(t, "slots", program(f), want, api.OK)
			checkBytes(t, want)
		}
	}
}

func TestFormatOfFunctions(t *testing.T) {
	for params := range 9 {
		f := api.Func{Params: params, Code: []api.Instr{{Op: api.Trap, Imm: 9}}}
		want := sealed(raw(3, 4, 0, 0, 1, 23, 5, byte(params), 0, 1, 24, 9, 4, 0, 0, 1, 23))
		checkEncode(t, "three functions", program(code(ret), f, code(ret)), want, api.OK)
		checkBytes(t, want)
	}
}

// The descriptions have lengths around those at which a varint needs another byte, as far as code can be so long.
func TestLengthsOfDescriptions(t *testing.T) {
	for n := 1; n <= api.MaxCode; n++ {
		p := program(code(repeated(n, ret)...))
		length, count := numbers(n+2+len(numbers(n))), numbers(n)
		want := sealed(raw(1), length, raw(0, 0), count, repeatedBytes(n, 23))
		checkEncode(t, "a long description", p, want, api.OK)
	}
	// 16384 bytes are more than a right function can have.
	for less := range 10 {
		f := code(repeated(api.MaxCode, api.Instr{Op: api.Const, A: 1<<31 - 1, Imm: math.MaxUint64})...)
		f.Code[0].Imm >>= 7 * less
		if n := len(description(f)); n != 16388-less {
			t.Fatalf("the description has %d bytes", n)
		}
		if e := checkBytes(t, encoded(program(f, f))); e != api.OK {
			t.Errorf("the error of descriptions of %d bytes is %d", 16388-less, e)
		}
	}
}

func TestGreatestLists(t *testing.T) {
	most := api.Func{Params: 8, Slots: repeated(api.MaxSlots, api.Slot{Size: 16, Align: api.MaxAlign}), Code: repeated(api.MaxCode, api.Instr{Op: api.Jump, A: api.MaxCode - 1})}
	for _, n := range []int{1, 2, api.MaxFuncs} {
		l := repeated(n, most)
		l[0].Params = 0
		checkEncode(t, "the most of everything", program(l...), encoded(program(l...)), api.OK)
		checkBytes(t, encoded(program(l...)))
	}
}

func TestFormatOfModel(t *testing.T) {
	c := chance(1)
	for i := range 3000 {
		p := c.right(3, 4, 8)
		if i%100 == 0 {
			p = c.right(5, 400, 800)
		}
		if e := sir.Check(p); e != api.OK {
			t.Fatalf("the program %v is not right: %d", p, e)
		}
		checkEncode(t, "a right program", p, encoded(p), api.OK)
		checkBytes(t, encoded(p))
	}
}

// P6.2

func TestEncodeOfWrongPrograms(t *testing.T) {
	for _, x := range []struct {
		name string
		p    api.Program
		want api.Errno
	}{
		{"no functions", api.Program{}, api.ErrRange},
		{"too many functions", program(repeated(api.MaxFuncs+1, code(ret))...), api.ErrLimit},
		{"an entry with parameters", program(api.Func{Params: 1, Code: []api.Instr{ret}}), api.ErrArity},
		{"too many parameters", program(code(ret), api.Func{Params: 9, Code: []api.Instr{ret}}), api.ErrRange},
		{"fewer than no parameters", program(code(ret), api.Func{Params: math.MinInt, Code: []api.Instr{ret}}), api.ErrRange},
		{"no code", program(code()), api.ErrTarget},
		{"code that runs off its end", program(code(ret, api.Instr{Op: api.In})), api.ErrTarget},
		{"too much code", program(code(repeated(api.MaxCode+1, ret)...)), api.ErrLimit},
		{"too many slots", program(api.Func{Slots: repeated(api.MaxSlots+1, api.Slot{Size: 1, Align: 1}), Code: []api.Instr{ret}}), api.ErrLimit},
		{"a slot of 3 bytes", program(api.Func{Slots: []api.Slot{{Size: 3, Align: 1}}, Code: []api.Instr{ret}}), api.ErrSize},
		{"no alignment", program(api.Func{Slots: []api.Slot{{Size: 4}}, Code: []api.Instr{ret}}), api.ErrSize},
		{"an alignment less than 0", program(api.Func{Slots: []api.Slot{{Size: 4, Align: math.MinInt}}, Code: []api.Instr{ret}}), api.ErrSize},
		{"the alignment 2^25", program(api.Func{Slots: []api.Slot{{Size: 4, Align: 1 << 25}}, Code: []api.Instr{ret}}), api.ErrSize},
		{"no operation", program(code(api.Instr{Op: 25}, ret)), api.ErrRange},
		{"an operation less than 0", program(code(api.Instr{Op: -1}, ret)), api.ErrRange},
		{"an operation of a narrower type", program(code(api.Instr{Op: 256 + api.Return}, ret)), api.ErrRange},
		{"an operand that is not used", program(code(api.Instr{Op: api.Return, C: 1})), api.ErrFormat},
		{"an Imm that is not used", program(code(api.Instr{Op: api.Return, Imm: 1})), api.ErrFormat},
		{"an operand less than 0", program(code(api.Instr{Op: api.In, A: -1}, ret)), api.ErrRange},
		{"a move between two sizes", program(api.Func{Slots: []api.Slot{{Size: 1, Align: 1}, {Size: 2, Align: 1}}, Code: []api.Instr{{Op: api.Move, B: 1}, ret}}), api.ErrSize},
		{"a wrong target", program(code(api.Instr{Op: api.Jump, A: 1})), api.ErrTarget},
	} {
		checkEncode(t, x.name, x.p, nil, x.want)
	}
}

// An error of sir.Check is the first one also for a program that is too long.
func TestEncodeOfWrongLongPrograms(t *testing.T) {
	p := ofLength(api.MaxBytes + 1)
	p.Funcs[api.MaxFuncs-1].Params = 9
	checkEncode(t, "a wrong function", p, nil, api.ErrRange)
	p.Funcs[0].Params = 1
	checkEncode(t, "a wrong entry", p, nil, api.ErrArity)
}

// ofLength returns a right program whose encoding has n bytes; n is next to api.MaxBytes.
func ofLength(n int) api.Program {
	f := api.Func{Slots: repeated(api.MaxSlots, api.Slot{Size: 16, Align: 16}), Code: append(repeated(api.MaxCode-1, api.Instr{Op: api.Const, A: 7, Imm: math.MaxUint64}), ret)}
	p := cloned(program(repeated(api.MaxFuncs, f)...))
	over := len(encoded(p)) - n
	for i := 0; over > 0; i++ {
		less := min(over, 9) // of the ten bytes of an Imm
		p.Funcs[i/(api.MaxCode-1)].Code[i%(api.MaxCode-1)].Imm >>= 7 * less
		over -= less
	}
	return p
}

func TestGreatestEncoding(t *testing.T) {
	for n := api.MaxBytes - 1; n <= api.MaxBytes; n++ {
		p := ofLength(n)
		b := encoded(p)
		if len(b) != n {
			t.Fatalf("the program has %d bytes, not %d", len(b), n)
		}
		checkEncode(t, "almost too long", p, b, api.OK)
		checkBytes(t, b)
	}
	for _, n := range []int{api.MaxBytes + 1, api.MaxBytes + 4, api.MaxBytes + 5} {
		p := ofLength(n)
		checkEncode(t, "too long", p, nil, api.ErrLimit)
		if e := checkBytes(t, encoded(p)); e != api.ErrLimit {
			t.Errorf("the error of %d bytes is %d", n, e)
		}
	}
}

func TestEncodeTwice(t *testing.T) {
	p := program(code(api.Instr{Op: api.Const, A: 1, Imm: 300}, ret))
	first, _ := sircode.Encode(p)
	clear(first[:cap(first)])
	checkEncode(t, "again", p, encoded(p), api.OK)
}

// P6.3

// long is a varint of 11 bytes, great one of 2^64, and padded one of 0 that is longer than necessary.
var (
	long   = append(bytes.Repeat([]byte{0x80}, 10), 1)
	great  = append(bytes.Repeat([]byte{0x80}, 9), 2)
	padded = []byte{0x80, 0}
	cut    = []byte{0x80}
	far    = numbers(1 << 31)
	last   = numbers(1<<31 - 1)
)

func TestParseExamples(t *testing.T) {
	one := described(raw(0, 0, 1, 23))
	for _, x := range []struct {
		name string
		b    []byte
		want api.Errno
	}{
		{"nothing", nil, api.ErrShort},
		{"only the first bytes", []byte("SIR1"), api.ErrShort},
		{"no checksum", []byte("SIR1\x00"), api.ErrShort},
		{"8 bytes with a checksum", checked([]byte("SIR1")), api.ErrShort},
		{"8 other bytes", []byte("12345678"), api.ErrShort},
		{"9 other bytes", []byte("123456789"), api.ErrFormat},
		{"9 other bytes with a checksum", checked([]byte("SIR2\x00")), api.ErrFormat},
		{"the first bytes of a target", checked(append([]byte("FRM1\x01"), one...)), api.ErrFormat},
		{"small letters", checked(append([]byte("sir1\x01"), one...)), api.ErrFormat},
		{"a checksum of other bytes", append([]byte("SIR1\x00"), checked([]byte("SIR1\x01"))[5:]...), api.ErrFormat},
		{"a checksum the other way round", []byte{'S', 'I', 'R', '1', 1, 4, 0, 0, 1, 23, 0xDF, 0x7B, 0x9B, 0x7E}, api.ErrFormat},
		{"no functions", sealed(raw(0)), api.OK},
		{"the example", sealed(raw(1), one), api.OK},

		// The number of functions.
		{"80 functions", sealed(numbers(80), bytes.Repeat(one, 80)), api.OK},
		{"81 functions", sealed(numbers(81), bytes.Repeat(one, 81)), api.ErrLimit},
		{"81 functions of which none is there", sealed(numbers(81)), api.ErrLimit},
		{"2^31 - 1 functions", sealed(last), api.ErrLimit},
		{"2^31 functions", sealed(far), api.ErrRange},
		{"2^63 functions", sealed(digits(1 << 63)), api.ErrRange},
		{"2^64 functions", sealed(great), api.ErrFormat},
		{"a number of functions without an end", sealed(cut), api.ErrShort},
		{"a number of functions that is padded", sealed(padded), api.ErrFormat},
		{"a number of functions that is too long", sealed(long), api.ErrFormat},
		{"a function more", sealed(raw(1), one, one), api.ErrFormat},
		{"a function less", sealed(raw(3), one, one), api.ErrShort},
		{"a byte more", sealed(raw(1), one, raw(0)), api.ErrFormat},
		{"a byte more after no functions", sealed(raw(0, 0)), api.ErrFormat},

		// The length of a description.
		{"an empty description", sealed(raw(1, 0)), api.ErrShort},
		{"a description without bytes", sealed(raw(1, 1)), api.ErrShort},
		{"a description that is one byte too long for the program", sealed(raw(1, 5, 0, 0, 1, 23)), api.ErrShort},
		{"a description that reaches into the checksum", sealed(raw(1, 8, 0, 0, 1, 23)), api.ErrShort},
		{"2^31 - 1 bytes of a description", sealed(raw(1), last, raw(0, 0, 1, 23)), api.ErrShort},
		{"2^31 bytes of a description", sealed(raw(1), far, raw(0, 0, 1, 23)), api.ErrRange},
		{"2^64 - 1 bytes of a description", sealed(raw(1), digits(math.MaxUint64), raw(0, 0, 1, 23)), api.ErrRange},
		{"a length that is padded", sealed(raw(1), padded, raw(0, 0, 1, 23)), api.ErrFormat},
		{"a length without an end", sealed(raw(1), cut), api.ErrShort},
		{"a description that is longer than its contents", sealed(raw(1, 5, 0, 0, 1, 23, 0)), api.ErrFormat},
		{"a description that is shorter than its contents", sealed(raw(1, 3, 0, 0, 1, 23)), api.ErrShort},
		{"a first description that is longer than its contents", sealed(raw(2, 5, 0, 0, 1, 23, 4, 0, 0, 1, 23)), api.ErrFormat},

		// The contents of a description.
		{"no code", sealed(raw(1), described(raw(0, 0, 0))), api.OK},
		{"2^31 - 1 parameters", sealed(raw(1), described(last, raw(0, 1, 23))), api.OK},
		{"2^31 parameters", sealed(raw(1), described(far, raw(0, 1, 23))), api.ErrRange},
		{"a number of parameters that is padded", sealed(raw(1), described(padded, raw(0, 1, 23))), api.ErrFormat},
		{"a number of parameters without an end", sealed(raw(1), described(cut), raw(0)), api.ErrShort},
		{"no number of slots", sealed(raw(1), described(raw(0))), api.ErrShort},
		{"512 slots", sealed(raw(1), described(numbers(0, 512), repeatedBytes(512, 1, 0), raw(1, 23))), api.OK},
		{"513 slots", sealed(raw(1), described(numbers(0, 513), repeatedBytes(513, 1, 0), raw(1, 23))), api.ErrLimit},
		{"513 slots of which none is there", sealed(raw(1), described(numbers(0, 513))), api.ErrLimit},
		{"2^31 - 1 slots", sealed(raw(1), described(raw(0), last)), api.ErrLimit},
		{"2^31 slots", sealed(raw(1), described(raw(0), far)), api.ErrRange},
		{"a number of slots that is too great", sealed(raw(1), described(raw(0), great)), api.ErrFormat},
		{"512 slots of which none is there", sealed(raw(1), described(numbers(0, 512))), api.ErrShort},
		{"the size 0", sealed(raw(1), described(raw(0, 1, 0, 0, 1, 23))), api.OK},
		{"the size 2^31 - 1", sealed(raw(1), described(raw(0, 1), last, raw(0, 1, 23))), api.OK},
		{"the size 2^31", sealed(raw(1), described(raw(0, 1), far, raw(0, 1, 23))), api.ErrRange},
		{"a size without an exponent", sealed(raw(1), described(raw(0, 1, 4))), api.ErrShort},
		{"the exponent 24", sealed(raw(1), described(raw(0, 1, 4, 24, 1, 23))), api.OK},
		{"the exponent 25", sealed(raw(1), described(raw(0, 1, 4, 25, 1, 23))), api.ErrRange},
		{"the exponent 64", sealed(raw(1), described(raw(0, 1, 4, 64, 1, 23))), api.ErrRange},
		{"the exponent 2^31", sealed(raw(1), described(raw(0, 1, 4), far, raw(1, 23))), api.ErrRange},
		{"an exponent that is padded", sealed(raw(1), described(raw(0, 1, 4), padded, raw(1, 23))), api.ErrFormat},
		{"no number of instructions", sealed(raw(1), described(raw(0, 0))), api.ErrShort},
		{"1024 instructions", sealed(raw(1), described(numbers(0, 0, 1024), repeatedBytes(1024, 23))), api.OK},
		{"1025 instructions", sealed(raw(1), described(numbers(0, 0, 1025), repeatedBytes(1025, 23))), api.ErrLimit},
		{"1025 instructions of which none is there", sealed(raw(1), described(numbers(0, 0, 1025))), api.ErrLimit},
		{"2^31 - 1 instructions", sealed(raw(1), described(raw(0, 0), last)), api.ErrLimit},
		{"2^31 instructions", sealed(raw(1), described(raw(0, 0), far)), api.ErrRange},
		{"1024 instructions of which none is there", sealed(raw(1), described(numbers(0, 0, 1024))), api.ErrShort},
		{"one instruction that is not there", sealed(raw(1), described(raw(0, 0, 1))), api.ErrShort},
		{"the operation 25", sealed(raw(1), described(raw(0, 0, 1, 25))), api.ErrRange},
		{"the operation 255", sealed(raw(1), described(raw(0, 0, 1, 255))), api.ErrRange},
		{"an operation as a varint", sealed(raw(1), described(raw(0, 0, 1, 0x97, 0))), api.ErrRange},
		{"an operand that is not there", sealed(raw(1), described(raw(0, 0, 1, 13))), api.ErrShort},
		{"an operand too many", sealed(raw(1), described(raw(0, 0, 1, 23, 0))), api.ErrFormat},
		{"a second operand that is not there", sealed(raw(1), described(raw(0, 0, 1, 1, 7))), api.ErrShort},
		{"a third operand that is not there", sealed(raw(1), described(raw(0, 0, 1, 2, 7, 7))), api.ErrShort},
		{"an Imm that is not there", sealed(raw(1), described(raw(0, 0, 1, 0, 7))), api.ErrShort},
		{"the operand 2^31 - 1", sealed(raw(1), described(raw(0, 0, 1, 22), last)), api.OK},
		{"the operand 2^31", sealed(raw(1), described(raw(0, 0, 1, 22), far)), api.ErrRange},
		{"the second operand 2^31", sealed(raw(1), described(raw(0, 0, 1, 21, 0), far)), api.ErrRange},
		{"the third operand 2^31", sealed(raw(1), described(raw(0, 0, 1, 11, 0, 0), far)), api.ErrRange},
		{"the Imm 2^64 - 1", sealed(raw(1), described(raw(0, 0, 1, 24), digits(math.MaxUint64))), api.OK},
		{"the Imm 2^31", sealed(raw(1), described(raw(0, 0, 1, 24), far)), api.OK},
		{"the Imm 2^64", sealed(raw(1), described(raw(0, 0, 1, 24), great)), api.ErrFormat},
		{"an Imm that is padded", sealed(raw(1), described(raw(0, 0, 1, 0, 7), padded)), api.ErrFormat},
	} {
		if e := checkBytes(t, x.b); e != x.want {
			t.Errorf("%s: the error of the model is %d, not %d", x.name, e, x.want)
		}
		if p, e := sircode.Parse(x.b); e != x.want || e != api.OK && !zero(p) {
			t.Errorf("%s: Parse returned %v, %d, not %d", x.name, p, e, x.want)
		}
	}
}

// Of two errors the one whose bytes come first is returned.
func TestOrderOfParseErrors(t *testing.T) {
	wrongOp, longer, shorter := described(raw(0, 0, 1, 25)), described(raw(0, 0, 1, 23, 0)), described(raw(0, 0, 1))
	for _, x := range []struct {
		name string
		b    []byte
		want api.Errno
	}{
		{"a wrong operation before a byte more", sealed(raw(1), wrongOp, raw(0)), api.ErrRange},
		{"a wrong operation before a wrong length", sealed(raw(2), wrongOp, raw(9)), api.ErrRange},
		{"a wrong operation before a length that is too great", sealed(raw(2), longer, far), api.ErrFormat},
		{"a wrong length before a wrong operation", sealed(raw(2, 5, 0, 0, 1, 25)), api.ErrShort},
		{"too short before too long", sealed(raw(2), shorter, longer), api.ErrShort},
		{"too long before too short", sealed(raw(2), longer, shorter), api.ErrFormat},
		{"too many slots before a wrong varint", sealed(raw(1), described(numbers(0, 513), padded)), api.ErrLimit},
		{"a wrong varint before too many slots", sealed(raw(1), described(padded, numbers(513))), api.ErrFormat},
		{"too many parameters before too many slots", sealed(raw(1), described(far, numbers(513))), api.ErrRange},
		{"a wrong size before a wrong exponent", sealed(raw(1), described(raw(0, 1), padded, raw(25, 1, 23))), api.ErrFormat},
		{"a wrong exponent before a wrong size", sealed(raw(1), described(raw(0, 2, 4, 25), padded, raw(0, 1, 23))), api.ErrRange},
		{"a wrong exponent before too much code", sealed(raw(1), described(raw(0, 1, 4, 25), numbers(1025))), api.ErrRange},
		{"a wrong operation before its operands", sealed(raw(1), described(raw(0, 0, 1, 25), padded)), api.ErrRange},
		{"a wrong operand before a wrong operation", sealed(raw(1), described(raw(0, 0, 2, 13), padded, raw(25))), api.ErrFormat},
		{"too many functions before a wrong function", sealed(raw(81), wrongOp), api.ErrLimit},
		{"the end of a description inside of a wrong varint", sealed(raw(1, 4, 0, 0, 1, 13, 0x80, 0)), api.ErrShort},
		{"the end of a description inside of the size of a slot", sealed(raw(1, 3, 0, 1, 0x80, 0x80, 0x80, 0x80, 0x80, 8)), api.ErrShort},
		{"ten bytes of a varint at the end of a description", sealed(raw(1, 12, 0), repeatedBytes(10, 0xFF), raw(0xFF, 0)), api.ErrFormat},
		{"nine bytes of a varint at the end of a description", sealed(raw(1, 10, 0), repeatedBytes(9, 0xFF), raw(0xFF, 0)), api.ErrShort},
		{"a wrong checksum before a wrong operation", append(sealed(raw(1), wrongOp), 0), api.ErrFormat},
		{"too many bytes before a wrong checksum", append(encoded(ofLength(api.MaxBytes)), 0), api.ErrLimit},
		{"too many bytes before other first bytes", make([]byte, api.MaxBytes+1), api.ErrLimit},
		{"as many bytes as there may be, with other first bytes", make([]byte, api.MaxBytes), api.ErrFormat},
	} {
		if e := checkBytes(t, x.b); e != x.want {
			t.Errorf("%s: the error is %d, not %d", x.name, e, x.want)
		}
	}
}

// sample is a right program in which every operation occurs.
func sample() api.Program {
	f := api.Func{Params: 3, Slots: []api.Slot{{Size: 4, Align: 4}, {Size: 4, Align: 1 << 24}}}
	for op := range api.Ops {
		x := api.Instr{Op: op}
		for i, n := range []*int{&x.A, &x.B, &x.C} {
			if used(op, "ABC"[i:i+1]) {
				*n = 1
			}
		}
		if used(op, "I") {
			x.Imm = 1 << 40
		}
		f.Code = append(f.Code, x)
	}
	return program(code(api.Instr{Op: api.Out, A: 6}, ret), f)
}

func TestEveryBeginning(t *testing.T) {
	for _, p := range []api.Program{program(code(ret)), sample()} {
		whole := encoded(p)
		for n := range whole {
			checkBytes(t, whole[:n])
			if n >= 4 && n < len(whole)-4 {
				if e := checkBytes(t, sealed(whole[4:n])); e != api.ErrShort {
					t.Errorf("the error of the first %d bytes is %d", n, e)
				}
			}
		}
	}
}

// Every byte is replaced by every other one, once with the old checksum and once with a new one.
func TestEveryByte(t *testing.T) {
	b := encoded(sample())
	if sir.Check(sample()) != api.OK {
		t.Fatalf("the program is not right")
	}
	for i, old := range b {
		for c := range 256 {
			b[i] = byte(c)
			if e := checkBytes(t, b); e == api.OK && b[i] != old {
				t.Fatalf("the byte %d at %d is not seen in the checksum", c, i)
			}
			if i >= 4 && i < len(b)-4 {
				checkBytes(t, sealed(b[4:len(b)-4]))
			}
		}
		b[i] = old
	}
}

// In place of each number of a program stands one that is too great, or not a varint.
func TestEveryNumber(t *testing.T) {
	content := encoded(sample())
	content = content[4 : len(content)-4]
	for _, other := range [][]byte{long, great, padded, cut, far, last, digits(math.MaxUint64), nil, {24}, {25}, numbers(80), numbers(81), numbers(512), numbers(513), numbers(1024), numbers(1025)} {
		for i := range content {
			checkBytes(t, sealed(content[:i], other, content[i+1:]))
			checkBytes(t, sealed(content[:i], other, content[i:]))
		}
		// Inside of a description whose length is that of its contents.
		for _, d := range descriptions(sample()) {
			for i := range d {
				checkBytes(t, sealed(raw(1), described(d[:i], other, d[i+1:])))
			}
		}
	}
}

// What Parse reads need not be right.
func TestParseOfModel(t *testing.T) {
	c := chance(2)
	wrong := 0
	for range 5000 {
		p := c.readable()
		b := encoded(p)
		if got, e := sircode.Parse(b); e != api.OK || !equal(got, p) {
			t.Fatalf("Parse(% x) returned %v, %d, not %v", b, got, e, p)
		}
		checkBytes(t, b)
		if sir.Check(p) != api.OK {
			wrong++
		}
	}
	if wrong < 4000 {
		t.Errorf("only %d of the programs are wrong", wrong)
	}
}

// spoiled returns the content of an encoded program with some changes.
func spoiled(c *chance, content []byte) []byte {
	out := slices.Clone(content)
	for range 1 + c.below(3) {
		i := c.below(len(out) + 1)
		switch c.below(6) {
		case 0:
			out = slices.Insert(out, i, byte(c.below(256)))
		case 1:
			out = slices.Insert(out, i, digits(c.wide())...)
		case 2:
			out = out[:i]
		case 3:
			k := i + c.below(len(out)-i+1)
			out = slices.Delete(out, i, k)
		default:
			if i < len(out) {
				out[i] = byte(c.below(30))
			}
		}
	}
	return out
}

func TestSpoiledPrograms(t *testing.T) {
	c := chance(3)
	found := map[api.Errno]int{}
	for i := range 60000 {
		p := c.readable()
		if i%2 == 0 {
			p = c.right(3, 3, 5)
		}
		b := encoded(p)
		found[checkBytes(t, sealed(spoiled(&c, b[4:len(b)-4])))]++
	}
	for _, e := range []api.Errno{api.OK, api.ErrShort, api.ErrFormat, api.ErrLimit, api.ErrRange} {
		if found[e] < 100 {
			t.Errorf("only %d of the programs are %d", found[e], e)
		}
	}
}

func TestBytesWithoutAPattern(t *testing.T) {
	c := chance(4)
	for range 20000 {
		b := make([]byte, c.below(40))
		for i := range b {
			b[i] = byte(c.below(256) >> c.below(8))
		}
		checkBytes(t, b)
		checkBytes(t, sealed(b))
		checkBytes(t, sealed(raw(1), described(b)))
	}
}

// P6.4

func TestDecodeOfWrongPrograms(t *testing.T) {
	for _, x := range []struct {
		name string
		p    api.Program
		want api.Errno
	}{
		{"no functions", program(), api.ErrRange},
		{"an entry with parameters", program(api.Func{Params: 1, Code: []api.Instr{ret}}), api.ErrArity},
		{"too many parameters", program(code(ret), api.Func{Params: 9, Code: []api.Instr{ret}}), api.ErrRange},
		{"no code", program(code(ret), code()), api.ErrTarget},
		{"code that runs off its end", program(code(api.Instr{Op: api.In})), api.ErrTarget},
		{"a slot of 32 bytes", program(api.Func{Slots: []api.Slot{{Size: 32, Align: 1}}, Code: []api.Instr{ret}}), api.ErrSize},
		{"a register that does not exist", program(code(api.Instr{Op: api.In, A: 8}, ret)), api.ErrRange},
		{"a slot that does not exist", program(code(api.Instr{Op: api.Load}, ret)), api.ErrRange},
		{"a move between two sizes", program(api.Func{Slots: []api.Slot{{Size: 1, Align: 1}, {Size: 2, Align: 1}}, Code: []api.Instr{{Op: api.Move, B: 1}, ret}}), api.ErrSize},
		{"a wrong target", program(code(api.Instr{Op: api.Jump, A: 1})), api.ErrTarget},
	} {
		b := encoded(x.p)
		if p, e := sircode.Parse(b); e != api.OK || !equal(p, x.p) {
			t.Errorf("%s: Parse returned %v, %d", x.name, p, e)
		}
		if p, e := sircode.Decode(b); e != x.want || !zero(p) {
			t.Errorf("%s: Decode returned %v, %d, not %d", x.name, p, e, x.want)
		}
		checkBytes(t, b)
		// An error of the bytes comes before that of the program.
		if p, e := sircode.Decode(sealed(b[4:len(b)-4], raw(0))); e != api.ErrFormat || !zero(p) {
			t.Errorf("%s, and a byte more: Decode returned %v, %d", x.name, p, e)
		}
	}
}

// The first consequence of chapter 6.
func TestDecodeOfEncode(t *testing.T) {
	c := chance(5)
	l := []api.Program{program(code(ret)), sample(), ofLength(api.MaxBytes)}
	for range 1000 {
		l = append(l, c.right(4, 20, 200))
	}
	for _, p := range l {
		b, e := sircode.Encode(p)
		if e != api.OK {
			t.Fatalf("Encode returned %d", e)
		}
		if got, e := sircode.Decode(b); e != api.OK || !sir.Same(got, p) {
			t.Fatalf("Decode of Encode of %v returned %v, %d", p, got, e)
		}
	}
}

// The second consequence: the bytes of two right programs of the same length never are the same, and no byte can be another one.
func TestBytesOfOneProgram(t *testing.T) {
	p := sample()
	b, _ := sircode.Encode(p)
	found := 0
	for i := 4; i < len(b)-4; i++ {
		for c := range 256 {
			other := slices.Clone(b[4 : len(b)-4])
			other[i-4] = byte(c)
			got, e := sircode.Decode(sealed(other))
			if e == api.OK && equal(got, p) != (byte(c) == b[i]) {
				t.Fatalf("the byte %d at %d is the same program", c, i)
			}
			if e == api.OK {
				found++
			}
		}
	}
	if found < len(b) {
		t.Errorf("only %d of the changes are right programs", found)
	}
}

// P6.5

func TestFunctions(t *testing.T) {
	c := chance(6)
	l := []api.Program{program(), program(code(ret)), program(code()), sample(), program(repeated(api.MaxFuncs, code(ret))...)}
	for range 500 {
		l = append(l, c.right(6, 9, 50), c.readable())
	}
	for _, p := range l {
		b := encoded(p)
		if got, e := sircode.Functions(b); e != api.OK || !equalLists(got, descriptions(p)) {
			t.Fatalf("Functions(% x) returned % x, %d", b, got, e)
		}
	}
	got, e := sircode.Functions(sealed(raw(2, 4, 0, 0, 1, 23, 5, 7, 0, 1, 24, 9)))
	if want := [][]byte{{0, 0, 1, 23}, {7, 0, 1, 24, 9}}; e != api.OK || !equalLists(got, want) {
		t.Errorf("Functions of the example returned % x, %d", got, e)
	}
}

// Writing to all memory of a result changes neither the argument nor another result.
func TestMemoryOfFunctions(t *testing.T) {
	p := sample()
	b := encoded(p)
	before := slices.Clone(b)
	for i := range p.Funcs {
		got, _ := sircode.Functions(b)
		clear(got[i][:cap(got[i])])
		for k, d := range descriptions(p) {
			if k != i && !bytes.Equal(got[k], d) {
				t.Errorf("the descriptions %d and %d share memory", i, k)
			}
		}
		if !bytes.Equal(b, before) {
			t.Fatalf("the description %d is memory of the argument", i)
		}
	}
	kept, _ := sircode.Functions(b)
	clear(b)
	if !equalLists(kept, descriptions(p)) {
		t.Errorf("the descriptions are memory of the argument")
	}
}
