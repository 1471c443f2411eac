package varint_test

import (
	"bytes"
	"hash/crc32"
	"math"
	"math/big"
	"slices"
	"testing"

	"spillframe/api"
	"spillframe/varint"
)

// numbers returns the numbers around every power of two, and some without a pattern.
func numbers() []uint64 {
	var l []uint64
	for i := range 64 {
		p := uint64(1) << i
		l = append(l, p-1, p, p+1, -p, -p-1, -p+1)
	}
	x := uint64(0x9E3779B97F4A7C15)
	for i := range 1000 {
		x = x*6364136223846793005 + 1442695040888963407
		l = append(l, x>>(i%64))
	}
	return l
}

// digits is the varint of v as P1.1 defines it, by division.
func digits(v uint64) []byte {
	out := []byte{byte(v % 128)}
	for v /= 128; v > 0; v /= 128 {
		out[len(out)-1] += 128
		out = append(out, byte(v%128))
	}
	return out
}

// read is Uint as P1.2 defines it, with numbers of any size.
func read(b []byte, at int) (uint64, int, api.Errno) {
	if at < 0 || at > len(b) {
		return 0, 0, api.ErrShort
	}
	b = b[at:]
	n := slices.IndexFunc(b, func(c byte) bool { return c < 128 }) + 1
	switch {
	case n == 0 && len(b) < 10:
		return 0, 0, api.ErrShort
	case n == 0 || n > 10 || n > 1 && b[n-1] == 0:
		return 0, 0, api.ErrFormat
	}
	v := new(big.Int)
	for i := n - 1; i >= 0; i-- {
		v.Lsh(v, 7)
		v.Or(v, big.NewInt(int64(b[i]%128)))
	}
	if !v.IsUint64() {
		return 0, 0, api.ErrFormat
	}
	return v.Uint64(), at + n, api.OK
}

// repeat returns n bytes c, followed by the bytes of last.
func repeat(c byte, n int, last ...byte) []byte {
	return append(bytes.Repeat([]byte{c}, n), last...)
}

func checkUint(t *testing.T, b []byte, at int) {
	t.Helper()
	before := slices.Clone(b)
	v, next, e := varint.Uint(b, at)
	wantV, wantNext, wantE := read(b, at)
	if v != wantV || next != wantNext || e != wantE {
		t.Errorf("Uint(% x, %d) returned %d, %d, %d, not %d, %d, %d", b, at, v, next, e, wantV, wantNext, wantE)
	}
	if !bytes.Equal(b, before) {
		t.Errorf("Uint changed % x to % x", before, b)
	}
}

// P1.1

func TestPutUintExamples(t *testing.T) {
	for _, x := range []struct {
		v    uint64
		want []byte
	}{
		{0, []byte{0}},
		{1, []byte{1}},
		{127, []byte{0x7F}},
		{128, []byte{0x80, 1}},
		{300, []byte{0xAC, 2}},
		{16383, []byte{0xFF, 0x7F}},
		{16384, []byte{0x80, 0x80, 1}},
		{1<<63 - 1, repeat(0xFF, 8, 0x7F)},
		{1 << 63, repeat(0x80, 9, 1)},
		{math.MaxUint64, repeat(0xFF, 9, 1)},
	} {
		if got := varint.PutUint(nil, x.v); !bytes.Equal(got, x.want) {
			t.Errorf("PutUint(nil, %d) returned % x, not % x", x.v, got, x.want)
		}
	}
}

func TestPutUintDigits(t *testing.T) {
	for _, v := range numbers() {
		if got := varint.PutUint(nil, v); !bytes.Equal(got, digits(v)) {
			t.Errorf("PutUint(nil, %d) returned % x, not % x", v, got, digits(v))
		}
	}
}

func TestPutUintAppends(t *testing.T) {
	for _, b := range [][]byte{nil, {}, {9}, {0x80}, {1, 2, 3, 0xFF}} {
		before := slices.Clone(b)
		got := varint.PutUint(b, 300)
		if want := append(slices.Clone(b), 0xAC, 2); !bytes.Equal(got, want) {
			t.Errorf("PutUint(% x, 300) returned % x", before, got)
		}
		if !bytes.Equal(b, before) {
			t.Errorf("PutUint changed % x to % x", before, b)
		}
	}
}

func TestPutKeepsMemoryOfArgument(t *testing.T) {
	for name, put := range map[string]func(b []byte) []byte{
		"PutUint": func(b []byte) []byte { return varint.PutUint(b, 1<<20) },
		"PutInt":  func(b []byte) []byte { return varint.PutInt(b, 1<<20) },
	} {
		full := repeat(7, 64)
		got := put(full[:3])
		if !bytes.Equal(full, repeat(7, 64)) {
			t.Errorf("%s wrote into the argument: % x", name, full)
		}
		for i := range got {
			got[i] = 0xEE
		}
		if !bytes.Equal(full, repeat(7, 64)) {
			t.Errorf("the result of %s is memory of its argument", name)
		}
	}
}

func TestPutTwiceToOneResult(t *testing.T) {
	b := varint.PutUint(nil, 1)
	first := varint.PutUint(b, 2)
	second := varint.PutInt(b, 3)
	if !bytes.Equal(first, []byte{1, 2}) || !bytes.Equal(second, []byte{1, 6}) {
		t.Errorf("two numbers after % x gave % x and % x", b, first, second)
	}
}

func TestLen(t *testing.T) {
	for _, v := range numbers() {
		if got := varint.Len(v); got != len(digits(v)) {
			t.Errorf("Len(%d) returned %d, not %d", v, got, len(digits(v)))
		}
	}
	for v, want := range map[uint64]int{0: 1, 127: 1, 128: 2, 1<<63 - 1: 9, 1 << 63: 10, math.MaxUint64: 10} {
		if got := varint.Len(v); got != want {
			t.Errorf("Len(%d) returned %d, not %d", v, got, want)
		}
	}
}

// P1.2

func TestUintReadsPutUint(t *testing.T) {
	for _, v := range numbers() {
		for _, before := range [][]byte{nil, {0}, {0x80, 0x80}} {
			b := varint.PutUint(before, v)
			for _, all := range [][]byte{b, append(slices.Clone(b), 0), append(slices.Clone(b), 0xFF)} {
				x, next, e := varint.Uint(all, len(before))
				if x != v || next != len(b) || e != api.OK {
					t.Errorf("Uint(% x, %d) returned %d, %d, %d, not %d", all, len(before), x, next, e, v)
				}
			}
		}
	}
}

func TestUintErrors(t *testing.T) {
	for _, x := range []struct {
		name string
		b    []byte
		at   int
		want api.Errno
	}{
		{"no bytes", nil, 0, api.ErrShort},
		{"at the end", []byte{1, 2}, 2, api.ErrShort},
		{"after the end", []byte{1, 2}, 3, api.ErrShort},
		{"before the beginning", []byte{1, 2}, -1, api.ErrShort},
		{"the least offset", []byte{1, 2}, math.MinInt, api.ErrShort},
		{"the greatest offset", []byte{1, 2}, math.MaxInt, api.ErrShort},
		{"one byte of two", []byte{0x80}, 0, api.ErrShort},
		{"the rest is missing after an offset", []byte{1, 0xFF}, 1, api.ErrShort},
		{"nine bytes of ten", repeat(0xFF, 9), 0, api.ErrShort},
		{"ten bytes without a last one", repeat(0x80, 10), 0, api.ErrFormat},
		{"ten greatest bytes", repeat(0xFF, 10), 0, api.ErrFormat},
		{"eleven bytes", repeat(0x80, 10, 1), 0, api.ErrFormat},
		{"eleven bytes, the last one 0", repeat(0x80, 10, 0), 0, api.ErrFormat},
		{"eleven bytes without a last one", repeat(0x80, 11), 0, api.ErrFormat},
		{"2^64", repeat(0x80, 9, 2), 0, api.ErrFormat},
		{"2^64 + 2^63", repeat(0x80, 9, 3), 0, api.ErrFormat},
		{"a greatest digit in the tenth byte", repeat(0xFF, 9, 0x7F), 0, api.ErrFormat},
		{"0 in two bytes", []byte{0x80, 0}, 0, api.ErrFormat},
		{"1 in two bytes", []byte{0x81, 0}, 0, api.ErrFormat},
		{"two bytes after an offset", []byte{5, 0xFF, 0}, 1, api.ErrFormat},
		{"ten bytes, the last one 0", repeat(0xFF, 9, 0), 0, api.ErrFormat},
	} {
		v, next, e := varint.Uint(x.b, x.at)
		if e != x.want || v != 0 || next != 0 {
			t.Errorf("%s: Uint(% x, %d) returned %d, %d, %d, not 0, 0, %d", x.name, x.b, x.at, v, next, e, x.want)
		}
	}
}

func TestUintLimits(t *testing.T) {
	for _, x := range []struct {
		b    []byte
		want uint64
	}{
		{[]byte{0}, 0},
		{[]byte{0x80, 1}, 128},
		{repeat(0x80, 9, 1), 1 << 63},
		{repeat(0xFF, 9, 1), math.MaxUint64},
	} {
		v, next, e := varint.Uint(x.b, 0)
		if v != x.want || next != len(x.b) || e != api.OK {
			t.Errorf("Uint(% x, 0) returned %d, %d, %d, not %d", x.b, v, next, e, x.want)
		}
	}
}

func TestUintShortStrings(t *testing.T) {
	for n := range 1 << 16 {
		b := []byte{byte(n), byte(n >> 8)}
		for at := -1; at <= 3; at++ {
			checkUint(t, b, at)
		}
	}
}

func TestUintLongStrings(t *testing.T) {
	edges := []byte{0, 1, 2, 3, 0x40, 0x7E, 0x7F, 0x80, 0x81, 0xFE, 0xFF}
	for n := range 13 {
		for _, c := range []byte{0x80, 0x81, 0xD5, 0xFF} {
			for _, x := range edges {
				for _, y := range edges {
					checkUint(t, repeat(c, n, x, y), 0)
					checkUint(t, append([]byte{0xFF}, repeat(c, n, x, y)...), 1)
				}
			}
		}
	}
}

// What Uint reads is the varint of the value, so no number has two varints.
func TestUintIsStrict(t *testing.T) {
	for n := range 1 << 24 {
		b := [3]byte{byte(n), byte(n >> 8), byte(n >> 16)}
		v, next, e := varint.Uint(b[:], 0)
		if e == api.OK && !bytes.Equal(varint.PutUint(nil, v), b[:next]) {
			t.Fatalf("Uint(% x, 0) returned %d, whose varint is % x", b, v, varint.PutUint(nil, v))
		}
	}
}

// P1.3

func TestPutIntExamples(t *testing.T) {
	for _, x := range []struct {
		v      int
		zigzag uint64
	}{
		{0, 0},
		{-1, 1},
		{1, 2},
		{-2, 3},
		{2, 4},
		{-3, 5},
		{63, 126},
		{-64, 127},
		{64, 128},
		{-65, 129},
		{math.MaxInt64 - 1, math.MaxUint64 - 3},
		{math.MinInt64 + 1, math.MaxUint64 - 2},
		{math.MaxInt64, math.MaxUint64 - 1},
		{math.MinInt64, math.MaxUint64},
	} {
		b := varint.PutInt([]byte{0x80}, x.v)
		if want := append([]byte{0x80}, digits(x.zigzag)...); !bytes.Equal(b, want) {
			t.Errorf("PutInt(80, %d) returned % x, not % x", x.v, b, want)
		}
		v, next, e := varint.Int(b, 1)
		if v != x.v || next != len(b) || e != api.OK {
			t.Errorf("Int(% x, 1) returned %d, %d, %d, not %d", b, v, next, e, x.v)
		}
	}
}

func TestPutIntZigzag(t *testing.T) {
	for _, n := range numbers() {
		v := int(n)
		z := big.NewInt(int64(v))
		z.Lsh(z, 1)
		if z.Sign() < 0 {
			z.Not(z)
		}
		b := varint.PutInt(nil, v)
		if !bytes.Equal(b, digits(z.Uint64())) {
			t.Errorf("PutInt(nil, %d) returned % x, not % x", v, b, digits(z.Uint64()))
		}
		x, next, e := varint.Int(append(slices.Clone(b), 0x80), 0)
		if x != v || next != len(b) || e != api.OK {
			t.Errorf("Int(% x, 0) returned %d, %d, %d, not %d", b, x, next, e, v)
		}
	}
}

func TestIntErrors(t *testing.T) {
	for _, x := range []struct {
		b    []byte
		at   int
		want api.Errno
	}{
		{nil, 0, api.ErrShort},
		{[]byte{5}, 1, api.ErrShort},
		{[]byte{5}, 2, api.ErrShort},
		{[]byte{5}, -1, api.ErrShort},
		{[]byte{5}, math.MinInt, api.ErrShort},
		{[]byte{5}, math.MaxInt, api.ErrShort},
		{[]byte{0x81}, 0, api.ErrShort},
		{repeat(0x81, 9), 0, api.ErrShort},
		{[]byte{0x81, 0}, 0, api.ErrFormat},
		{repeat(0x81, 9, 2), 0, api.ErrFormat},
		{repeat(0x81, 10), 0, api.ErrFormat},
		{repeat(0x81, 10, 1), 0, api.ErrFormat},
	} {
		v, next, e := varint.Int(x.b, x.at)
		if e != x.want || v != 0 || next != 0 {
			t.Errorf("Int(% x, %d) returned %d, %d, %d, not 0, 0, %d", x.b, x.at, v, next, e, x.want)
		}
	}
}

// P1.4

func TestCrcExamples(t *testing.T) {
	for s, want := range map[string]uint32{
		"":                 0,
		"123456789":        0xCBF43926,
		"a":                0xE8B7BE43,
		"\x00":             0xD202EF8D,
		"\xFF":             0xFF000000,
		"\x00\x00\x00\x00": 0x2144DF1C,
	} {
		if got := varint.Crc([]byte(s)); got != want {
			t.Errorf("Crc(%q) returned %08x, not %08x", s, got, want)
		}
	}
	if got := varint.Crc(nil); got != 0 {
		t.Errorf("Crc(nil) returned %08x", got)
	}
}

func TestCrcOfLibrary(t *testing.T) {
	for n := range 1 << 16 {
		b := []byte{byte(n), byte(n >> 8)}
		if got, want := varint.Crc(b), crc32.ChecksumIEEE(b); got != want {
			t.Fatalf("Crc(% x) returned %08x, not %08x", b, got, want)
		}
	}
	var b []byte
	for _, v := range numbers() {
		b = append(b, byte(v>>(len(b)%64)))
		before := slices.Clone(b)
		if got, want := varint.Crc(b), crc32.ChecksumIEEE(b); got != want {
			t.Fatalf("Crc of %d bytes returned %08x, not %08x", len(b), got, want)
		}
		if !bytes.Equal(b, before) {
			t.Fatalf("Crc changed its argument")
		}
	}
}
