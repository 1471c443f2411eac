package machcode_test

import (
	"bytes"
	"math"
	"slices"
	"testing"

	"spillframe/api"
	"spillframe/mach"
	"spillframe/machcode"
)

const greatest = 2147483519 // bytes of the greatest frame

var ret = api.Instr{Op: api.Return}

func target(frames ...api.Frame) api.Target {
	return api.Target{Align: 16, Frames: frames}
}

// code returns a frame of 32 bytes without parameters.
func code(l ...api.Instr) api.Frame {
	return api.Frame{Size: 32, Code: l}
}

func repeated[T any](n int, l ...T) []T {
	return slices.Repeat(l, n)
}

// raw returns these bytes, which are written as they are.
func raw(l ...byte) []byte {
	return l
}

func clone(t api.Target) api.Target {
	out := api.Target{Align: t.Align}
	for _, f := range t.Frames {
		f.Code = slices.Clone(f.Code)
		out.Frames = append(out.Frames, f)
	}
	return out
}

// roomy returns a copy of a target with spare capacity in which the lists would go on.
func roomy(t api.Target) api.Target {
	out := clone(t)
	for i, f := range out.Frames {
		f.Code = append(f.Code, ret, api.Instr{Op: 99, A: 7})[:len(f.Code)]
		out.Frames[i] = f
	}
	out.Frames = append(out.Frames, code(ret), api.Frame{Params: -1})[:len(out.Frames)]
	return out
}

// whole returns a copy of all memory of a target.
func whole(t api.Target) api.Target {
	out := api.Target{Align: t.Align}
	for _, f := range t.Frames[:cap(t.Frames)] {
		f.Code = slices.Clone(f.Code[:cap(f.Code)])
		out.Frames = append(out.Frames, f)
	}
	return out
}

// checkEncode calls Encode with a copy of g that has spare capacity.
func checkEncode(t *testing.T, name string, g api.Target, bound int, want []byte, wantE api.Errno) {
	t.Helper()
	r := roomy(g)
	before := whole(r)
	got, e := machcode.Encode(r, bound)
	if !bytes.Equal(got, want) || e != wantE {
		t.Fatalf("%s: Encode returned % x, %d, not % x, %d", name, got, e, want, wantE)
	}
	if !equal(whole(r), before) {
		t.Fatalf("%s: Encode changed its argument", name)
	}
}

// checkBytes compares Decode of a copy of b that has spare capacity with the model, and Encode of what it returns with b. It returns the error.
func checkBytes(t *testing.T, b []byte) api.Errno {
	t.Helper()
	want, wantBound, wantE := decoded(b)
	r := append(slices.Clone(b), 0, 23, 0xFF, 0x80)[:len(b)]
	before := slices.Clone(r[:cap(r)])
	got, bound, e := machcode.Decode(r)
	if !equal(got, want) || bound != wantBound || e != wantE || e != api.OK && !zero(got) {
		t.Fatalf("Decode(% x) returned %v, %d, %d, not %v, %d, %d", b, got, bound, e, want, wantBound, wantE)
	}
	if !bytes.Equal(r[:cap(r)], before) {
		t.Fatalf("Decode changed its argument % x", b)
	}
	if e == api.OK {
		checkEncode(t, "what Decode returned", got, bound, b, api.OK)
	}
	return e
}

// checkPair checks that Encode and Decode take a target and a bound to these bytes and back.
func checkPair(t *testing.T, name string, g api.Target, bound int, b []byte) {
	t.Helper()
	checkEncode(t, name, g, bound, b, api.OK)
	checkBytes(t, b)
	if got, gotBound, e := machcode.Decode(b); e != api.OK || !equal(got, g) || gotBound != bound {
		t.Fatalf("%s: Decode(% x) returned %v, %d, %d, not %v, %d", name, b, got, gotBound, e, g, bound)
	}
}

// sample is a right target in which every operation occurs, with numbers of several lengths.
func sample() api.Target {
	entry := api.Frame{Size: 320, Code: []api.Instr{
		{Op: api.Const, A: 1, Imm: 1 << 40},
		{Op: api.In, A: 2},
		{Op: api.Branch, A: 2, B: 5},
		{Op: api.Copy, A: 7, B: 1},
		{Op: api.Pair, A: 2, B: 1, C: 7},
		{Op: api.Store, A: 300, B: 1, C: 8},
		{Op: api.Move, A: 8, B: 300, C: 8},
		{Op: api.Load, A: 3, B: 32, C: 16},
		{Op: api.Call, A: 1},
		{Op: api.High, A: 4, B: 3},
		{Op: api.Out, A: 4},
		{Op: api.Jump, A: 12},
		ret,
	}}
	called := api.Frame{Params: 3, Size: 16, Code: []api.Instr{{Op: api.Load, A: 5, B: 48, C: 16}}}
	for op := api.Add; op <= api.Equal; op++ {
		called.Code = append(called.Code, api.Instr{Op: op, A: 6, B: 5, C: 4})
	}
	called.Code = append(called.Code, api.Instr{Op: api.Trap, Imm: math.MaxUint64})
	return target(entry, called)
}

// P11.1

func TestExample(t *testing.T) {
	want := []byte{'F', 'R', 'M', '1', 4, 32, 1, 0, 2, 1, 23, 0xD9, 0xEE, 0xEB, 0xFB}
	checkPair(t, "the example", target(code(ret)), 32, want)
}

// The operands are all different, and those of more than one byte are there where an operation can have them.
func TestFormatOfOperations(t *testing.T) {
	for _, x := range []struct {
		instr api.Instr
		want  []byte
	}{
		{api.Instr{Op: api.Const, A: 7, Imm: 300}, []byte{0, 7, 0xAC, 2}},
		{api.Instr{Op: api.Const}, []byte{0, 0, 0}},
		{api.Instr{Op: api.Const, A: 1, Imm: 1<<31 - 1}, []byte{0, 1, 0xFF, 0xFF, 0xFF, 0xFF, 7}},
		{api.Instr{Op: api.Const, A: 1, Imm: 1 << 31}, []byte{0, 1, 0x80, 0x80, 0x80, 0x80, 8}},
		{api.Instr{Op: api.Const, A: 1, Imm: 1 << 63}, []byte{0, 1, 0x80, 0x80, 0x80, 0x80, 0x80, 0x80, 0x80, 0x80, 0x80, 1}},
		{api.Instr{Op: api.Const, A: 1, Imm: math.MaxUint64}, []byte{0, 1, 0xFF, 0xFF, 0xFF, 0xFF, 0xFF, 0xFF, 0xFF, 0xFF, 0xFF, 1}},
		{api.Instr{Op: api.Copy, A: 5, B: 6}, []byte{1, 5, 6}},
		{api.Instr{Op: api.Add, A: 5, B: 6, C: 7}, []byte{2, 5, 6, 7}},
		{api.Instr{Op: api.Sub, A: 5, B: 6, C: 7}, []byte{3, 5, 6, 7}},
		{api.Instr{Op: api.Mul, A: 5, B: 6, C: 7}, []byte{4, 5, 6, 7}},
		{api.Instr{Op: api.Div, A: 5, B: 6, C: 7}, []byte{5, 5, 6, 7}},
		{api.Instr{Op: api.And, A: 5, B: 6, C: 7}, []byte{6, 5, 6, 7}},
		{api.Instr{Op: api.Or, A: 5, B: 6, C: 7}, []byte{7, 5, 6, 7}},
		{api.Instr{Op: api.Xor, A: 5, B: 6, C: 7}, []byte{8, 5, 6, 7}},
		{api.Instr{Op: api.Less, A: 5, B: 6, C: 7}, []byte{9, 5, 6, 7}},
		{api.Instr{Op: api.Equal, A: 5, B: 6, C: 7}, []byte{10, 5, 6, 7}},
		{api.Instr{Op: api.Pair, A: 5, B: 6, C: 7}, []byte{11, 5, 6, 7}},
		{api.Instr{Op: api.High, A: 5, B: 6}, []byte{12, 5, 6}},
		{api.Instr{Op: api.In, A: 5}, []byte{13, 5}},
		{api.Instr{Op: api.Out, A: 5}, []byte{14, 5}},
		{api.Instr{Op: api.Load, A: 5, B: 300, C: 16}, []byte{15, 5, 0xAC, 2, 16}},
		{api.Instr{Op: api.Load, A: 5, B: 320, C: 16}, []byte{15, 5, 0xC0, 2, 16}},
		{api.Instr{Op: api.Load, A: 5, B: 0, C: 1}, []byte{15, 5, 0, 1}},
		{api.Instr{Op: api.Store, A: 300, B: 5, C: 8}, []byte{16, 0xAC, 2, 5, 8}},
		{api.Instr{Op: api.Store, A: 0, B: 0, C: 2}, []byte{16, 0, 0, 2}},
		{api.Instr{Op: api.Move, A: 300, B: 128, C: 4}, []byte{17, 0xAC, 2, 0x80, 1, 4}},
		{api.Instr{Op: api.Move, A: 127, B: 400, C: 16}, []byte{17, 0x7F, 0x90, 3, 16}},
		{api.Instr{Op: api.Jump, A: 300}, []byte{20, 0xAC, 2}},
		{api.Instr{Op: api.Branch, A: 5, B: 300}, []byte{21, 5, 0xAC, 2}},
		{api.Instr{Op: api.Call, A: 1}, []byte{22, 1}},
		{api.Instr{Op: api.Return}, []byte{23}},
		{api.Instr{Op: api.Trap, Imm: 300}, []byte{24, 0xAC, 2}},
		{api.Instr{Op: api.Trap, Imm: math.MaxUint64}, []byte{24, 0xFF, 0xFF, 0xFF, 0xFF, 0xFF, 0xFF, 0xFF, 0xFF, 0xFF, 1}},
	} {
		f := api.Frame{Params: 8, Size: 320, Code: append([]api.Instr{x.instr}, repeated(300, ret)...)}
		want := sealed(raw(4, 0xAC, 2, 2, 0, 2, 1, 23, 8, 20, 0xAD, 2), x.want, repeated[byte](300, 23))
		checkPair(t, "one operation", target(code(ret), f), 300, want)
	}
}

func TestFormatOfAlignments(t *testing.T) {
	for exponent := 4; exponent <= 24; exponent++ {
		for _, units := range []int{0, 1, 2, 127, 128} {
			if units<<exponent > greatest {
				continue
			}
			g := api.Target{Align: 1 << exponent, Frames: []api.Frame{{Size: units << exponent, Code: []api.Instr{ret}}}}
			checkPair(t, "an alignment", g, 5, sealed(raw(byte(exponent), 5, 1, 0), numbers(units), raw(1, 23)))
		}
	}
}

// The greatest frames for each alignment, and the greatest offsets in them.
func TestGreatestFrames(t *testing.T) {
	for exponent := 4; exponent <= 24; exponent++ {
		units := greatest >> exponent
		size := units << exponent
		f := api.Frame{Params: 8, Size: size, Code: []api.Instr{{Op: api.Load, A: 7, B: size + 112, C: 16}, {Op: api.Store, A: size - 1, B: 7, C: 1}, {Op: api.Move, A: size - 4, B: size - 5, C: 4}, ret}}
		g := api.Target{Align: 1 << exponent, Frames: []api.Frame{{Size: size, Code: []api.Instr{{Op: api.Call, A: 1}, ret}}, f}}
		want := sealed(numbers(exponent, size, 2, 0, units, 2, 22, 1, 23, 8, units, 4), numbers(15, 7, size+112, 16, 16, size-1, 7, 1, 17, size-4, size-5, 4, 23))
		checkPair(t, "the greatest frames", g, size, want)
	}
}

func TestFormatOfBounds(t *testing.T) {
	for _, x := range []struct {
		bound int
		want  []byte
	}{
		{0, []byte{0}}, {1, []byte{1}}, {127, []byte{0x7F}}, {128, []byte{0x80, 1}}, {300, []byte{0xAC, 2}}, {16383, []byte{0xFF, 0x7F}}, {16384, []byte{0x80, 0x80, 1}},
		{1<<21 - 1, []byte{0xFF, 0xFF, 0x7F}}, {1 << 21, []byte{0x80, 0x80, 0x80, 1}}, {1<<28 - 1, []byte{0xFF, 0xFF, 0xFF, 0x7F}}, {1 << 28, []byte{0x80, 0x80, 0x80, 0x80, 1}},
		{1<<31 - 2, []byte{0xFE, 0xFF, 0xFF, 0xFF, 7}}, {1<<31 - 1, []byte{0xFF, 0xFF, 0xFF, 0xFF, 7}},
	} {
		checkPair(t, "a bound", target(code(ret)), x.bound, sealed(raw(4), x.want, raw(1, 0, 2, 1, 23)))
	}
}

func TestFormatOfFrames(t *testing.T) {
	for params := range 9 {
		f := api.Frame{Params: params, Size: 16, Code: []api.Instr{{Op: api.Trap, Imm: 9}}}
		want := sealed(raw(4, 7, 3, 0, 2, 1, 23, byte(params), 1, 1, 24, 9, 0, 2, 1, 23))
		checkPair(t, "three frames", target(code(ret), f, code(ret)), 7, want)
	}
}

func TestNumbersOfFrames(t *testing.T) {
	for n := 1; n <= api.MaxFuncs; n++ {
		g := target(repeated(n, code(ret))...)
		checkPair(t, "many frames", g, 32, sealed(raw(4, 32, byte(n)), repeated[byte](n, 0, 2, 1, 23)))
	}
}

func TestNumbersOfInstructions(t *testing.T) {
	for n := 1; n <= api.MaxCode; n++ {
		if n > 200 && n < 1000 {
			continue
		}
		g := target(code(repeated(n, ret)...))
		checkPair(t, "much code", g, 32, sealed(raw(4, 32, 1, 0, 2), numbers(n), repeated[byte](n, 23)))
	}
}

func TestFormatOfModel(t *testing.T) {
	c := chance(1)
	for i := range 4000 {
		g := c.right(4, 8)
		if i%100 == 0 {
			g = c.right(5, 800)
		}
		if e := mach.Check(g); e != api.OK {
			t.Fatalf("the target %v is not right: %d", g, e)
		}
		bound := c.bound()
		checkPair(t, "a right target", g, bound, encoded(g, bound))
	}
}

// P11.2

// far has numbers that are no bounds, and that in a narrower type would be small.
func far() []int {
	return []int{math.MinInt, math.MinInt + 1, -1 << 32, -1<<32 + 1, -1 << 31, -1000, -2, -1, 1 << 31, 1<<31 + 1, 1<<32 - 1, 1 << 32, 1<<32 + 1, 1 << 62, math.MaxInt - 1, math.MaxInt}
}

func TestEncodeOfWrongBounds(t *testing.T) {
	for _, bound := range far() {
		for _, g := range []api.Target{target(code(ret)), sample(), most()} {
			checkEncode(t, "no bound", g, bound, nil, api.ErrRange)
		}
	}
}

// wrongTargets has a target for each error of mach.Check, and more.
func wrongTargets() []api.Target {
	wrong := []api.Instr{
		{Op: -1}, {Op: 25}, {Op: 256 + api.Return}, {Op: api.Arg}, {Op: api.Param}, {Op: api.In, A: 8}, {Op: api.In, A: -1}, {Op: api.In, A: 1 << 32}, {Op: api.In, B: 1}, {Op: api.Call, A: 2}, {Op: api.Call, C: 1},
		{Op: api.Const, A: 8}, {Op: api.Load, A: 1, B: 25, C: 8}, {Op: api.Load, A: 1, C: 3}, {Op: api.Load, A: 1}, {Op: api.Store, A: 31, B: 1, C: 2}, {Op: api.Store, A: -1, B: 1, C: 2}, {Op: api.Move, B: 32, C: 1},
		{Op: api.Move, C: 1, Imm: 1}, {Op: api.Jump, A: 3}, {Op: api.Branch, A: 0, B: 1 << 31}, {Op: api.Return, Imm: 1}, {Op: api.Return, C: 1}, {Op: api.Trap, A: 1}, {Op: api.Trap, C: math.MinInt},
	}
	l := []api.Target{
		{}, {Align: 16}, {Frames: []api.Frame{code(ret)}}, {Align: 8, Frames: []api.Frame{code(ret)}}, {Align: 1, Frames: []api.Frame{code(ret)}}, {Align: 24, Frames: []api.Frame{code(ret)}}, {Align: -16, Frames: []api.Frame{code(ret)}},
		{Align: math.MinInt, Frames: []api.Frame{code(ret)}}, {Align: 1 << 25, Frames: []api.Frame{{Size: 1 << 25, Code: []api.Instr{ret}}}}, {Align: 64, Frames: []api.Frame{code(ret)}},
		target(repeated(api.MaxFuncs+1, code(ret))...), target(code()), target(code(ret), code()), target(code(repeated(api.MaxCode+1, ret)...)), target(code(ret, api.Instr{Op: api.In})),
		target(api.Frame{Params: 1, Code: []api.Instr{ret}}), target(code(ret), api.Frame{Params: 9, Code: []api.Instr{ret}}), target(code(ret), api.Frame{Params: -1, Code: []api.Instr{ret}}),
		target(api.Frame{Size: 17, Code: []api.Instr{ret}}), target(api.Frame{Size: -16, Code: []api.Instr{ret}}), target(api.Frame{Size: greatest + 1, Code: []api.Instr{ret}}), target(api.Frame{Size: 1 << 32, Code: []api.Instr{ret}}),
		target(code(api.Instr{Op: api.Call, A: 1}, ret), api.Frame{Params: 3, Code: []api.Instr{ret}}),
	}
	for _, x := range wrong {
		l = append(l, target(code(x, ret), code(ret)), target(code(ret), code(ret, x, ret)))
	}
	return l
}

// The error of the target comes before that of the bound.
func TestEncodeOfWrongTargets(t *testing.T) {
	found := map[api.Errno]bool{}
	for _, g := range wrongTargets() {
		want := mach.Check(g)
		found[want] = true
		for _, bound := range append(far(), 0, 32, api.MaxBound) {
			checkEncode(t, "a wrong target", g, bound, nil, want)
		}
	}
	for _, e := range []api.Errno{api.ErrLimit, api.ErrRange, api.ErrSize, api.ErrArity, api.ErrFormat, api.ErrTarget} {
		if !found[e] {
			t.Errorf("no target has the error %d", e)
		}
	}
	if found[api.OK] {
		t.Errorf("a target is right")
	}
}

// most returns a right target that no other one has more bytes than: 12 bytes are the most that an instruction has.
func most() api.Target {
	size := greatest / 16 * 16
	x := api.Instr{Op: api.Move, A: size - 1, B: size - 1, C: 1}
	y := api.Instr{Op: api.Const, A: 1, Imm: math.MaxUint64}
	f := api.Frame{Params: 8, Size: size, Code: append(repeated(api.MaxCode/2, x, y)[1:], api.Instr{Op: api.Trap, Imm: math.MaxUint64})}
	l := repeated(api.MaxFuncs, f)
	l[0].Params = 0
	return target(l...)
}

// Even that target has fewer bytes than api.MaxBytes, so that Encode never returns api.ErrLimit because of its own limit.
func TestGreatestEncoding(t *testing.T) {
	b := encoded(most(), api.MaxBound)
	if want := 4 + 1 + 5 + 1 + 80*(1+4+2+1023*12+11) + 4; len(b) != want || len(b) > api.MaxBytes {
		t.Fatalf("the target has %d bytes, not %d", len(b), want)
	}
	checkPair(t, "the most of everything", most(), api.MaxBound, b)
	checkBytes(t, sealed(content(b), raw(0)))
}

func TestEncodeTwice(t *testing.T) {
	g := sample()
	first, _ := machcode.Encode(g, 336)
	clear(first[:cap(first)])
	checkEncode(t, "again", g, 336, encoded(g, 336), api.OK)
}

// P11.3

// long is a varint of 11 bytes, great one of 2^64, and padded one of 0 that is longer than necessary.
var (
	long   = append(repeated[byte](10, 0x80), 1)
	great  = append(repeated[byte](9, 0x80), 2)
	padded = []byte{0x80, 0}
	cut    = []byte{0x80}
)

func TestDecodeExamples(t *testing.T) {
	one := raw(0, 2, 1, 23)
	for _, x := range []struct {
		name string
		b    []byte
		want api.Errno
	}{
		{"nothing", nil, api.ErrShort},
		{"only the first bytes", []byte("FRM1"), api.ErrShort},
		{"8 bytes with a checksum", sealed(), api.ErrShort},
		{"9 bytes with a checksum", sealed(raw(4)), api.ErrShort},
		{"9 other bytes", make([]byte, 9), api.ErrShort},
		{"10 other bytes", make([]byte, 10), api.ErrFormat},
		{"10 bytes with a checksum", sealed(raw(4, 32)), api.ErrFormat},
		{"11 bytes with a checksum", sealed(raw(4, 32, 0)), api.ErrFormat},
		{"the example", sealed(raw(4, 32, 1), one), api.OK},
		{"other first bytes", checked(slices.Concat([]byte("FRM2"), raw(4, 32, 1), one)), api.ErrFormat},
		{"the first bytes of a source program", checked(slices.Concat([]byte("SIR1"), raw(4, 32, 1), one)), api.ErrFormat},
		{"small letters", checked(slices.Concat([]byte("frm1"), raw(4, 32, 1), one)), api.ErrFormat},
		{"the first bytes twice", checked(slices.Concat([]byte("FRM1FRM1"), raw(4, 32, 1), one)), api.ErrFormat},
		{"the checksum of other bytes", append([]byte{'F', 'R', 'M', '1', 4, 33, 1, 0, 2, 1, 23}, sealed(raw(4, 32, 1), one)[11:]...), api.ErrFormat},
		{"a byte after the checksum", append(sealed(raw(4, 32, 1), one), 0), api.ErrFormat},
		{"no checksum", sealed(raw(4, 32, 1), one)[:11], api.ErrFormat},
		{"two checksums", checked(sealed(raw(4, 32, 1), one)), api.ErrFormat},

		// The exponent of Align.
		{"the exponent 3", sealed(raw(3, 32, 1), one), api.ErrFormat},
		{"the exponent 0", sealed(raw(0, 32, 1), one), api.ErrFormat},
		{"the exponent 5", sealed(raw(5, 32, 1), one), api.OK},
		{"the exponent 24", sealed(raw(24, 32, 1), one), api.OK},
		{"the exponent 25", sealed(raw(25, 32, 1), one), api.ErrFormat},
		{"the exponent 64", sealed(raw(64, 32, 1), one), api.ErrFormat},
		{"the exponent 68", sealed(raw(68, 32, 1), one), api.ErrFormat},
		{"the exponent 2^64 - 1", sealed(digits(math.MaxUint64), raw(32, 1), one), api.ErrFormat},
		{"an exponent that is padded", sealed(raw(0x84, 0, 32, 1), one), api.ErrFormat},

		// The bound.
		{"the bound 0", sealed(raw(4, 0, 1), one), api.OK},
		{"the bound 2^31 - 1", sealed(numbers(4, 1<<31-1, 1), one), api.OK},
		{"the bound 2^31", sealed(numbers(4, 1<<31, 1), one), api.ErrFormat},
		{"the bound 2^32 + 32", sealed(numbers(4, 1<<32+32, 1), one), api.ErrFormat},
		{"the bound 2^63", sealed(raw(4), digits(1<<63), raw(1), one), api.ErrFormat},
		{"the bound 2^64 - 1", sealed(raw(4), digits(math.MaxUint64), raw(1), one), api.ErrFormat},
		{"the bound 2^64", sealed(raw(4), great, raw(1), one), api.ErrFormat},
		{"a bound that is padded", sealed(raw(4), padded, raw(1), one), api.ErrFormat},
		{"a bound that is too long", sealed(raw(4), long, raw(1), one), api.ErrFormat},
		{"a bound without an end", sealed(raw(4, 32, 32, 0x80)), api.ErrFormat},

		// The number of frames.
		{"no frames", sealed(raw(4, 32, 0)), api.ErrFormat},
		{"no frames, and one", sealed(raw(4, 32, 0), one), api.ErrFormat},
		{"a frame more", sealed(raw(4, 32, 1), one, one), api.ErrFormat},
		{"a frame less", sealed(raw(4, 32, 3), one, one), api.ErrFormat},
		{"80 frames", sealed(raw(4, 32, 80), repeated(80, one...)), api.OK},
		{"81 frames", sealed(raw(4, 32, 81), repeated(81, one...)), api.ErrFormat},
		{"81 frames of which 80 are there", sealed(raw(4, 32, 81), repeated(80, one...)), api.ErrFormat},
		{"2^60 frames", sealed(numbers(4, 32, 1<<60), one), api.ErrFormat},
		{"2^64 - 1 frames", sealed(raw(4, 32), digits(math.MaxUint64), one), api.ErrFormat},
		{"a number of frames that is padded", sealed(raw(4, 32, 0x81, 0), one), api.ErrFormat},
		{"a byte more", sealed(raw(4, 32, 1), one, raw(0)), api.ErrFormat},
		{"an instruction more", sealed(raw(4, 32, 1), one, raw(23)), api.ErrFormat},

		// The frames.
		{"an entry with parameters", sealed(raw(4, 32, 1, 1, 2, 1, 23)), api.ErrFormat},
		{"8 parameters", sealed(raw(4, 32, 2, 0, 2, 1, 23, 8, 2, 1, 23)), api.OK},
		{"9 parameters", sealed(raw(4, 32, 2, 0, 2, 1, 23, 9, 2, 1, 23)), api.ErrFormat},
		{"2^64 - 1 parameters", sealed(raw(4, 32, 2, 0, 2, 1, 23), digits(math.MaxUint64), raw(2, 1, 23)), api.ErrFormat},
		{"parameters that are padded", sealed(raw(4, 32, 1, 0x80, 0, 2, 1, 23)), api.ErrFormat},
		{"an empty frame", sealed(raw(4, 32, 1, 0, 0, 1, 23)), api.OK},
		{"the greatest frame", sealed(numbers(4, 32, 1, 0, greatest/16, 1, 23)), api.OK},
		{"a frame that is too great", sealed(numbers(4, 32, 1, 0, greatest/16+1, 1, 23)), api.ErrFormat},
		{"a frame of 2^32 + 32 bytes", sealed(numbers(4, 32, 1, 0, 1<<28+2, 1, 23)), api.ErrFormat},
		{"a frame of 2^63 bytes", sealed(numbers(4, 32, 1, 0, 1<<59, 1, 23)), api.ErrFormat},
		{"a frame of 2^64 bytes", sealed(numbers(4, 32, 1, 0, 1<<60, 1, 23)), api.ErrFormat},
		{"a frame of 2^64 + 32 bytes", sealed(numbers(4, 32, 1, 0, 1<<60+2, 1, 23)), api.ErrFormat},
		{"a frame of 2^64 + 2^24 bytes of the greatest alignment", sealed(numbers(24, 32, 1, 0, 1<<40+1, 1, 23)), api.ErrFormat},
		{"a size that is padded", sealed(raw(4, 32, 1, 0, 0x82, 0, 1, 23)), api.ErrFormat},
		{"no code", sealed(raw(4, 32, 1, 0, 2, 0)), api.ErrFormat},
		{"1024 instructions", sealed(numbers(4, 32, 1, 0, 2, 1024), repeated[byte](1024, 23)), api.OK},
		{"1025 instructions", sealed(numbers(4, 32, 1, 0, 2, 1025), repeated[byte](1025, 23)), api.ErrFormat},
		{"1025 instructions of which 1024 are there", sealed(numbers(4, 32, 1, 0, 2, 1025), repeated[byte](1024, 23)), api.ErrFormat},
		{"2^40 instructions", sealed(numbers(4, 32, 1, 0, 2, 1<<40), raw(23)), api.ErrFormat},
		{"2^64 - 1 instructions", sealed(numbers(4, 32, 1, 0, 2), digits(math.MaxUint64), raw(23)), api.ErrFormat},
		{"a number of instructions that is padded", sealed(numbers(4, 32, 1, 0, 2), raw(0x81, 0, 23)), api.ErrFormat},
		{"a number of instructions without an end", sealed(numbers(4, 32, 1, 0, 2), cut), api.ErrFormat},
		{"two instructions of which one is there", sealed(raw(4, 32, 1, 0, 2, 2, 23)), api.ErrFormat},
		{"code that runs off its end", sealed(raw(4, 32, 1, 0, 2, 1, 13, 0)), api.ErrFormat},

		// The instructions.
		{"an In", sealed(raw(4, 32, 1, 0, 2, 2, 13, 7, 23)), api.OK},
		{"an In without a register", sealed(raw(4, 32, 1, 0, 2, 2, 23, 13)), api.ErrFormat},
		{"a register that does not exist", sealed(raw(4, 32, 1, 0, 2, 2, 13, 8, 23)), api.ErrFormat},
		{"the register 2^64 - 1", sealed(raw(4, 32, 1, 0, 2, 2, 13), digits(math.MaxUint64), raw(23)), api.ErrFormat},
		{"the register 2^32", sealed(numbers(4, 32, 1, 0, 2, 2, 13, 1<<32, 23)), api.ErrFormat},
		{"a register that is padded", sealed(raw(4, 32, 1, 0, 2, 2, 13), padded, raw(23)), api.ErrFormat},
		{"the operation 25", sealed(raw(4, 32, 1, 0, 2, 2, 25, 23)), api.ErrFormat},
		{"the operation 255", sealed(raw(4, 32, 1, 0, 2, 2, 255, 23)), api.ErrFormat},
		{"an operation as a varint of two bytes", sealed(raw(4, 32, 1, 0, 2, 1, 0x97, 0)), api.ErrFormat},
		{"an Arg", sealed(raw(4, 32, 1, 0, 2, 2, 18, 0, 0, 23)), api.ErrFormat},
		{"an Arg without operands", sealed(raw(4, 32, 1, 0, 2, 2, 18, 23)), api.ErrFormat},
		{"a Param", sealed(raw(4, 32, 1, 0, 2, 2, 19, 0, 0, 23)), api.ErrFormat},
		{"a Param without operands", sealed(raw(4, 32, 1, 0, 2, 2, 19, 23)), api.ErrFormat},
		{"a Load", sealed(raw(4, 32, 1, 0, 2, 2, 15, 1, 16, 16, 23)), api.OK},
		{"a Load of the source language", sealed(raw(4, 32, 1, 0, 2, 2, 15, 1, 16, 23)), api.ErrFormat},
		{"a Load from outside of the frame", sealed(raw(4, 32, 1, 0, 2, 2, 15, 1, 17, 16, 23)), api.ErrFormat},
		{"a Load of parameters", sealed(raw(4, 32, 2, 0, 2, 1, 23, 2, 2, 2, 15, 1, 48, 16, 23)), api.OK},
		{"a Load of 3 bytes", sealed(raw(4, 32, 1, 0, 2, 2, 15, 1, 16, 3, 23)), api.ErrFormat},
		{"a Store", sealed(raw(4, 32, 1, 0, 2, 2, 16, 31, 7, 1, 23)), api.OK},
		{"a Store outside of the frame", sealed(raw(4, 32, 1, 0, 2, 2, 16, 31, 7, 2, 23)), api.ErrFormat},
		{"a Move", sealed(raw(4, 32, 1, 0, 2, 2, 17, 0, 30, 2, 23)), api.OK},
		{"a Move from outside of the frame", sealed(raw(4, 32, 1, 0, 2, 2, 17, 0, 31, 2, 23)), api.ErrFormat},
		{"a Jump", sealed(raw(4, 32, 1, 0, 2, 1, 20, 0)), api.OK},
		{"a Jump to nowhere", sealed(raw(4, 32, 1, 0, 2, 1, 20, 1)), api.ErrFormat},
		{"a Call", sealed(raw(4, 32, 1, 0, 2, 2, 22, 0, 23)), api.OK},
		{"a Call of no frame", sealed(raw(4, 32, 1, 0, 2, 2, 22, 1, 23)), api.ErrFormat},
		{"a Call with too many arguments", sealed(raw(4, 32, 2, 0, 2, 2, 22, 1, 23, 3, 2, 1, 23)), api.ErrFormat},
		{"a Call with as many arguments as there may be", sealed(raw(4, 32, 2, 0, 2, 2, 22, 1, 23, 2, 2, 1, 23)), api.OK},
		{"an Imm of 2^64 - 1", sealed(raw(4, 32, 1, 0, 2, 1, 24), digits(math.MaxUint64)), api.OK},
		{"an Imm of 2^64", sealed(raw(4, 32, 1, 0, 2, 1, 24), great), api.ErrFormat},
		{"an Imm that is padded", sealed(raw(4, 32, 1, 0, 2, 1, 24), padded), api.ErrFormat},
		{"an Imm that is too long", sealed(raw(4, 32, 1, 0, 2, 1, 24), long), api.ErrFormat},
		{"an Imm without an end", sealed(raw(4, 32, 1, 0, 2, 1, 24), cut), api.ErrFormat},
		{"no Imm", sealed(raw(4, 32, 1, 0, 2, 1, 24)), api.ErrFormat},
		{"a Const without an Imm", sealed(raw(4, 32, 1, 0, 2, 2, 0, 1, 23)), api.ErrFormat},

		// The limit comes before everything else.
		{"as many bytes as there may be", make([]byte, api.MaxBytes), api.ErrFormat},
		{"too many bytes", make([]byte, api.MaxBytes+1), api.ErrLimit},
		{"as many bytes as there may be, after a target", sealed(raw(4, 32, 1), one, make([]byte, api.MaxBytes-15)), api.ErrFormat},
		{"too many bytes after a target", sealed(raw(4, 32, 1), one, make([]byte, api.MaxBytes-14)), api.ErrLimit},
		{"too many bytes after a checksum", append(sealed(raw(4, 32, 1), one), make([]byte, api.MaxBytes-14)...), api.ErrLimit},
	} {
		if e := checkBytes(t, x.b); e != x.want {
			t.Errorf("%s: the error is %d, not %d", x.name, e, x.want)
		}
	}
}

// The bytes that the format gives to wrong targets are refused.
func TestBytesOfWrongTargets(t *testing.T) {
	found := 0
	for i, g := range wrongTargets() {
		if !readable(g) {
			continue
		}
		found++
		if e := checkBytes(t, encoded(g, 32)); e != api.ErrFormat {
			t.Errorf("the error of the bytes of target %d is %d", i, e)
		}
	}
	if found < 30 {
		t.Errorf("the format has only %d of the targets", found)
	}
}

func TestEveryBeginning(t *testing.T) {
	for _, g := range []api.Target{target(code(ret)), sample()} {
		b := encoded(g, 300)
		for n := range b {
			want := api.ErrFormat
			if n < 10 {
				want = api.ErrShort
			}
			if e := checkBytes(t, b[:n]); e != want {
				t.Errorf("the error of the first %d bytes is %d", n, e)
			}
			if n >= 6 && n < len(b)-4 {
				if e := checkBytes(t, checked(b[:n])); e != api.ErrFormat {
					t.Errorf("the error of the first %d bytes with a checksum is %d", n, e)
				}
			}
		}
	}
}

// Every byte is replaced by every other one, once with the old checksum and once with a new one.
func TestEveryByte(t *testing.T) {
	if mach.Check(sample()) != api.OK {
		t.Fatalf("the target is not right")
	}
	b := encoded(sample(), 336)
	right := 0
	for i, old := range b {
		for c := range 256 {
			b[i] = byte(c)
			if e := checkBytes(t, b); e != api.ErrFormat && b[i] != old {
				t.Fatalf("the byte %d at %d is not seen in the checksum", c, i)
			}
			if i < len(b)-4 && checkBytes(t, checked(b[:len(b)-4])) == api.OK {
				right++
			}
		}
		b[i] = old
	}
	if right < 2*len(b) {
		t.Errorf("only %d of the bytes give right targets", right)
	}
}

// In place of each byte of a target, and before it, stands a number that is too great, or not a varint.
func TestEveryNumber(t *testing.T) {
	b := content(encoded(sample(), 336))
	for _, other := range [][]byte{long, great, padded, cut, digits(math.MaxUint64), digits(1 << 63), numbers(1<<63 - 1), numbers(1 << 32), numbers(1 << 31), numbers(1<<31 - 1), nil, {24}, {25}, numbers(80), numbers(81), numbers(1024), numbers(1025), repeated[byte](40, 0), repeated[byte](12, 0xFF)} {
		for i := range b {
			checkBytes(t, sealed(b[:i], other, b[i+1:]))
			checkBytes(t, sealed(b[:i], other, b[i:]))
		}
	}
}

// spoiled returns the content of an encoded target with some changes.
func spoiled(c *chance, content []byte) []byte {
	out := slices.Clone(content)
	for range 1 + c.below(3) {
		i := c.below(len(out) + 1)
		switch c.below(6) {
		case 0:
			out = slices.Insert(out, i, byte(c.below(256)))
		case 1:
			out = slices.Insert(out, i, digits(c.wide())...)
		case 2:
			out = out[:i]
		case 3:
			k := i + c.below(len(out)-i+1)
			out = slices.Delete(out, i, k)
		default:
			if i < len(out) {
				out[i] = byte(c.below(30))
			}
		}
	}
	return out
}

func TestSpoiledTargets(t *testing.T) {
	c := chance(2)
	found := map[api.Errno]int{}
	for range 30000 {
		b := encoded(c.right(3, 6), c.bound())
		found[checkBytes(t, sealed(spoiled(&c, content(b))))]++
	}
	if found[api.OK] < 1000 || found[api.ErrFormat] < 1000 {
		t.Errorf("the errors of the targets are %v", found)
	}
}

func TestBytesWithoutAPattern(t *testing.T) {
	c := chance(3)
	right := 0
	for range 50000 {
		b := make([]byte, c.below(40))
		for i := range b {
			b[i] = byte(c.below(256) >> c.below(8))
		}
		checkBytes(t, b)
		checkBytes(t, sealed(b))
		if checkBytes(t, sealed(raw(byte(4+c.below(3)), byte(c.below(128)), 1, 0, byte(c.below(3)), byte(1+c.below(4))), b[:len(b)/4], raw(23))) == api.OK {
			right++
		}
	}
	if right < 500 {
		t.Errorf("only %d are right", right)
	}
}

// The consequences of chapter 11.
func TestThereAndBack(t *testing.T) {
	c := chance(4)
	l := []api.Target{target(code(ret)), sample(), most()}
	for range 1000 {
		l = append(l, c.right(4, 200))
	}
	for _, g := range l {
		bound := c.bound()
		b, e := machcode.Encode(g, bound)
		if e != api.OK {
			t.Fatalf("Encode returned %d", e)
		}
		if got, gotBound, e := machcode.Decode(b); e != api.OK || !mach.Same(got, g) || gotBound != bound {
			t.Fatalf("Decode of Encode of %v, %d returned %v, %d, %d", g, bound, got, gotBound, e)
		}
	}
}

// A target that Decode returned shares no memory with its bytes, and its frames share none with each other.
func TestMemoryOfDecode(t *testing.T) {
	b := encoded(sample(), 336)
	g, _, _ := machcode.Decode(b)
	clear(b)
	if !equal(g, sample()) {
		t.Fatalf("the target changed with its bytes")
	}
	for i, f := range g.Frames {
		clear(f.Code[:cap(f.Code)])
		if k := 1 - i; k > i && !slices.Equal(g.Frames[k].Code, sample().Frames[k].Code) {
			t.Errorf("frame %d changed with frame %d", k, i)
		}
	}
}
