package value_test

import (
	"bytes"
	"math"
	"math/big"
	"slices"
	"testing"

	"spillframe/api"
	"spillframe/value"
)

const most = math.MaxUint64

var sizes = []int{1, 2, 4, 8, 16}

// wrongSizes has numbers around the sizes, sums of sizes, and numbers that a narrower type would take for a size.
func wrongSizes() []int {
	l := []int{math.MinInt, math.MaxInt, -16, -8, -4, -2, -1, 0, 1<<8 + 1, 1<<16 + 2, 1<<32 + 8, 1<<32 + 16, math.MinInt + 4}
	for n := range 300 {
		if !slices.Contains(sizes, n) {
			l = append(l, n)
		}
	}
	return l
}

// mix is a generator without a pattern that the operations have.
type mix uint64

func (m *mix) next() uint64 {
	*m = *m*6364136223846793005 + 1442695040888963407
	return uint64(*m>>32) | uint64(*m)<<32
}

// wide returns a value of any length, from 0 to 128 bits.
func (m *mix) wide() api.Value {
	x := api.Value{Lo: m.next(), Hi: m.next()}
	n := uint(m.next() % 129)
	return fromBig(new(big.Int).Rsh(toBig(x), n))
}

// edges returns the values whose words are at the limits of words and of their halves.
func edges() []api.Value {
	words := []uint64{0, 1, 2, 3, 10, 1<<32 - 1, 1 << 32, 1<<63 - 1, 1 << 63, 1<<63 + 1, most - 1, most}
	var l []api.Value
	for _, lo := range words {
		for _, hi := range words {
			l = append(l, api.Value{Lo: lo, Hi: hi})
		}
	}
	return l
}

func toBig(x api.Value) *big.Int {
	n := new(big.Int).SetUint64(x.Hi)
	n.Lsh(n, 64)
	return n.Or(n, new(big.Int).SetUint64(x.Lo))
}

// fromBig returns n modulo 2^128.
func fromBig(n *big.Int) api.Value {
	word := new(big.Int).Lsh(big.NewInt(1), 64)
	hi, lo := new(big.Int).DivMod(n, word, new(big.Int))
	return api.Value{Lo: lo.Uint64(), Hi: hi.Mod(hi, word).Uint64()}
}

func truth(holds bool) *big.Int {
	if holds {
		return big.NewInt(1)
	}
	return new(big.Int)
}

// apply is Apply as P2.2 defines it, with numbers of any size.
func apply(op int, x, y api.Value) (api.Value, bool) {
	a, b, c := toBig(x), toBig(y), new(big.Int)
	switch op {
	case api.Add:
		c.Add(a, b)
	case api.Sub:
		c.Sub(a, b)
	case api.Mul:
		c.Mul(a, b)
	case api.Div:
		if b.Sign() == 0 {
			return api.Value{}, false
		}
		c.Quo(a, b)
	case api.And:
		c.And(a, b)
	case api.Or:
		c.Or(a, b)
	case api.Xor:
		c.Xor(a, b)
	case api.Less:
		c = truth(a.Cmp(b) < 0)
	case api.Equal:
		c = truth(a.Cmp(b) == 0)
	default:
		return api.Value{}, false
	}
	return fromBig(c), true
}

func checkApply(t *testing.T, x, y api.Value) {
	t.Helper()
	for op := api.Const; op <= api.Ops; op++ {
		got, ok := value.Apply(op, x, y)
		want, wantOK := apply(op, x, y)
		if got != want || ok != wantOK {
			t.Fatalf("Apply(%d, %x, %x) returned %x, %t, not %x, %t", op, x, y, got, ok, want, wantOK)
		}
	}
}

// P2.1

func TestSize(t *testing.T) {
	for _, n := range sizes {
		if !value.Size(n) {
			t.Errorf("Size(%d) returned false", n)
		}
	}
	for _, n := range wrongSizes() {
		if value.Size(n) {
			t.Errorf("Size(%d) returned true", n)
		}
	}
}

// P2.2

func TestApplyExamples(t *testing.T) {
	zero, one, all := api.Value{}, api.Value{Lo: 1}, api.Value{Lo: most, Hi: most}
	for _, c := range []struct {
		name    string
		op      int
		x, y, z api.Value
	}{
		{"the carry goes into the high word", api.Add, api.Value{Lo: most}, one, api.Value{Hi: 1}},
		{"the carry out of the high word is lost", api.Add, all, one, zero},
		{"both words carry", api.Add, all, all, api.Value{Lo: most - 1, Hi: most}},
		{"the words are added with a carry of 1", api.Add, api.Value{Lo: most, Hi: 5}, api.Value{Lo: 2, Hi: 7}, api.Value{Lo: 1, Hi: 13}},
		{"the borrow comes from the high word", api.Sub, api.Value{Hi: 1}, one, api.Value{Lo: most}},
		{"the borrow out of the high word is lost", api.Sub, zero, one, all},
		{"the difference is not that of y and x", api.Sub, api.Value{Lo: 3}, api.Value{Lo: 5, Hi: 1}, api.Value{Lo: most - 1, Hi: most - 1}},
		{"the product has a high word", api.Mul, api.Value{Lo: most}, api.Value{Lo: most}, api.Value{Lo: 1, Hi: most - 1}},
		{"both mixed products count", api.Mul, api.Value{Lo: 2, Hi: 3}, api.Value{Lo: 5, Hi: 7}, api.Value{Lo: 10, Hi: 29}},
		{"the product of the high words does not count", api.Mul, api.Value{Hi: 3}, api.Value{Hi: 7}, zero},
		{"the product wraps around", api.Mul, all, all, one},
		{"the quotient is rounded down", api.Div, api.Value{Lo: 20}, api.Value{Lo: 7}, api.Value{Lo: 2}},
		{"the quotient is rounded down next to a multiple", api.Div, api.Value{Lo: 20}, api.Value{Lo: 21}, zero},
		{"the quotient has two words", api.Div, api.Value{Lo: 1, Hi: 10}, api.Value{Lo: 2}, api.Value{Hi: 5}},
		{"the divisor has two words", api.Div, all, api.Value{Hi: 1}, api.Value{Lo: most}},
		{"the divisor is more than half of all values", api.Div, all, api.Value{Lo: 1, Hi: 1 << 63}, one},
		{"the greatest value by itself", api.Div, all, all, one},
		{"the greatest value by 1", api.Div, all, one, all},
		{"the greatest value but 1 by the greatest one", api.Div, api.Value{Lo: most - 1, Hi: most}, all, zero},
		{"0 by something", api.Div, zero, api.Value{Lo: 9}, zero},
		{"and", api.And, api.Value{Lo: 12, Hi: 5}, api.Value{Lo: 10, Hi: 6}, api.Value{Lo: 8, Hi: 4}},
		{"or", api.Or, api.Value{Lo: 12, Hi: 5}, api.Value{Lo: 10, Hi: 6}, api.Value{Lo: 14, Hi: 7}},
		{"xor", api.Xor, api.Value{Lo: 12, Hi: 5}, api.Value{Lo: 10, Hi: 6}, api.Value{Lo: 6, Hi: 3}},
		{"less", api.Less, api.Value{Lo: 1}, api.Value{Lo: 2}, one},
		{"greater", api.Less, api.Value{Lo: 2}, api.Value{Lo: 1}, zero},
		{"a value is not less than itself", api.Less, all, all, zero},
		{"the high word decides", api.Less, api.Value{Lo: 9, Hi: 1}, api.Value{Lo: 1, Hi: 2}, one},
		{"the high word decides against the low word", api.Less, api.Value{Lo: 1, Hi: 2}, api.Value{Lo: 9, Hi: 1}, zero},
		{"low words are unsigned", api.Less, one, api.Value{Lo: 1 << 63}, one},
		{"high words are unsigned", api.Less, all, one, zero},
		{"equal", api.Equal, api.Value{Lo: 7, Hi: 8}, api.Value{Lo: 7, Hi: 8}, one},
		{"other low words", api.Equal, api.Value{Lo: 7, Hi: 8}, api.Value{Lo: 6, Hi: 8}, zero},
		{"other high words", api.Equal, api.Value{Lo: 7, Hi: 8}, api.Value{Lo: 7, Hi: 9}, zero},
		{"0 and 0", api.Equal, zero, zero, one},
	} {
		if got, ok := value.Apply(c.op, c.x, c.y); got != c.z || !ok {
			t.Errorf("%s: Apply(%d, %x, %x) returned %x, %t, not %x", c.name, c.op, c.x, c.y, got, ok, c.z)
		}
	}
}

func TestApplyWithoutResult(t *testing.T) {
	x, y := api.Value{Lo: 6, Hi: 7}, api.Value{Lo: 2, Hi: 3}
	ops := []int{math.MinInt, math.MaxInt, 1<<32 + api.Add, api.Add - 1<<8}
	for op := -api.Ops; op <= 300; op++ {
		if op < api.Add || op > api.Equal {
			ops = append(ops, op)
		}
	}
	for _, op := range ops {
		if got, ok := value.Apply(op, x, y); got != (api.Value{}) || ok {
			t.Errorf("Apply(%d, %x, %x) returned %x, %t", op, x, y, got, ok)
		}
	}
	for _, x := range edges() {
		if got, ok := value.Apply(api.Div, x, api.Value{}); got != (api.Value{}) || ok {
			t.Errorf("Apply(Div, %x, 0) returned %x, %t", x, got, ok)
		}
	}
}

// The other operations have a result when y is 0.
func TestApplyToZero(t *testing.T) {
	for _, x := range edges() {
		checkApply(t, x, api.Value{})
	}
}

func TestApplyEdges(t *testing.T) {
	for _, x := range edges() {
		for _, y := range edges() {
			checkApply(t, x, y)
		}
	}
}

func TestApplyWide(t *testing.T) {
	m := mix(1)
	for range 20000 {
		x, y := m.wide(), m.wide()
		checkApply(t, x, y)
		checkApply(t, x, x)
	}
}

// The values next to a multiple of the divisor are those whose quotient is easily wrong by 1.
func TestQuotientNextToMultiples(t *testing.T) {
	m := mix(2)
	for range 5000 {
		y, n := m.wide(), m.wide()
		if y == (api.Value{}) {
			continue
		}
		multiple := new(big.Int).Mul(toBig(y), new(big.Int).Quo(toBig(n), toBig(y)))
		for d := int64(-1); d <= 1; d++ {
			x := fromBig(new(big.Int).Add(multiple, big.NewInt(d)))
			got, ok := value.Apply(api.Div, x, y)
			rest := new(big.Int).Sub(toBig(x), new(big.Int).Mul(toBig(got), toBig(y)))
			if !ok || rest.Sign() < 0 || rest.Cmp(toBig(y)) >= 0 {
				t.Fatalf("Apply(Div, %x, %x) returned %x, %t: the rest is %x", x, y, got, ok, rest)
			}
		}
	}
}

// P2.3

func TestPair(t *testing.T) {
	for _, x := range edges() {
		for _, y := range edges() {
			if got := value.Pair(x, y); got != (api.Value{Lo: x.Lo, Hi: y.Lo}) {
				t.Fatalf("Pair(%x, %x) returned %x", x, y, got)
			}
		}
	}
}

func TestHigh(t *testing.T) {
	for _, x := range edges() {
		if got := value.High(x); got != (api.Value{Lo: x.Hi}) {
			t.Errorf("High(%x) returned %x", x, got)
		}
	}
	x, y := api.Value{Lo: 1, Hi: 2}, api.Value{Lo: 3, Hi: 4}
	if got := value.Pair(x, y); got != (api.Value{Lo: 1, Hi: 3}) {
		t.Errorf("Pair(%x, %x) returned %x", x, y, got)
	}
	if got := value.High(y); got != (api.Value{Lo: 4}) {
		t.Errorf("High(%x) returned %x", y, got)
	}
}

// P2.4

func TestBytesExamples(t *testing.T) {
	x := api.Value{Lo: 0x8877665544332211, Hi: 0x00FFEEDDCCBBAA99}
	for _, c := range []struct {
		x    api.Value
		size int
		want []byte
	}{
		{api.Value{Lo: 0x1234}, 2, []byte{0x34, 0x12}},
		{api.Value{Lo: 0x1234}, 4, []byte{0x34, 0x12, 0, 0}},
		{x, 1, []byte{0x11}},
		{x, 2, []byte{0x11, 0x22}},
		{x, 4, []byte{0x11, 0x22, 0x33, 0x44}},
		{x, 8, []byte{0x11, 0x22, 0x33, 0x44, 0x55, 0x66, 0x77, 0x88}},
		{x, 16, []byte{0x11, 0x22, 0x33, 0x44, 0x55, 0x66, 0x77, 0x88, 0x99, 0xAA, 0xBB, 0xCC, 0xDD, 0xEE, 0xFF, 0}},
		{api.Value{}, 16, make([]byte, 16)},
	} {
		if got := value.Bytes(c.x, c.size); !bytes.Equal(got, c.want) {
			t.Errorf("Bytes(%x, %d) returned % x, not % x", c.x, c.size, got, c.want)
		}
		if got := value.FromBytes(c.want); got != value.Truncate(c.x, c.size) {
			t.Errorf("FromBytes(% x) returned %x", c.want, got)
		}
	}
}

func TestTruncateExamples(t *testing.T) {
	x := api.Value{Lo: 0x8877665544332211, Hi: 0x00FFEEDDCCBBAA99}
	for size, want := range map[int]api.Value{
		1:  {Lo: 0x11},
		2:  {Lo: 0x2211},
		4:  {Lo: 0x44332211},
		8:  {Lo: 0x8877665544332211},
		16: x,
	} {
		if got := value.Truncate(x, size); got != want {
			t.Errorf("Truncate(%x, %d) returned %x, not %x", x, size, got, want)
		}
	}
}

func TestBytesAndTruncateOfWrongSizes(t *testing.T) {
	x := api.Value{Lo: most, Hi: most}
	for _, size := range wrongSizes() {
		if got := value.Bytes(x, size); len(got) != 0 {
			t.Errorf("Bytes(%x, %d) returned % x", x, size, got)
		}
		if got := value.Truncate(x, size); got != (api.Value{}) {
			t.Errorf("Truncate(%x, %d) returned %x", x, size, got)
		}
	}
}

func TestBytesOfModel(t *testing.T) {
	m := mix(3)
	values := edges()
	for range 5000 {
		values = append(values, m.wide())
	}
	for _, x := range values {
		// The bytes of math/big begin with the most significant one.
		all := toBig(x).FillBytes(make([]byte, 16))
		slices.Reverse(all)
		for _, size := range sizes {
			b := value.Bytes(x, size)
			if !bytes.Equal(b, all[:size]) {
				t.Fatalf("Bytes(%x, %d) returned % x, not % x", x, size, b, all[:size])
			}
			limit := new(big.Int).Lsh(big.NewInt(1), uint(8*size))
			want := fromBig(new(big.Int).Mod(toBig(x), limit))
			if got := value.Truncate(x, size); got != want {
				t.Fatalf("Truncate(%x, %d) returned %x, not %x", x, size, got, want)
			}
			if got := value.FromBytes(b); got != want {
				t.Fatalf("FromBytes(% x) returned %x, not %x", b, got, want)
			}
		}
	}
}

// FromBytes reads any number of bytes, also one that is not a size.
func TestFromBytesOfAnyLength(t *testing.T) {
	m := mix(4)
	for n := range 40 {
		for _, fill := range []func() byte{func() byte { return 0xFF }, func() byte { return byte(m.next()) }} {
			b := make([]byte, n)
			for i := range b {
				b[i] = fill()
			}
			before := slices.Clone(b)
			low := slices.Clone(b[:min(n, 16)])
			slices.Reverse(low)
			if got, want := value.FromBytes(b), fromBig(new(big.Int).SetBytes(low)); got != want {
				t.Errorf("FromBytes(% x) returned %x, not %x", before, got, want)
			}
			if !bytes.Equal(b, before) {
				t.Errorf("FromBytes changed % x to % x", before, b)
			}
		}
	}
	for _, b := range [][]byte{nil, {}, {0}, make([]byte, 17)} {
		if got := value.FromBytes(b); got != (api.Value{}) {
			t.Errorf("FromBytes(% x) returned %x", b, got)
		}
	}
	if got := value.FromBytes(append(make([]byte, 16), 1, 2, 3)); got != (api.Value{}) {
		t.Errorf("FromBytes counted bytes after the first 16: %x", got)
	}
}

// FromBytes does not read the spare capacity of its argument.
func TestFromBytesOfPart(t *testing.T) {
	full := bytes.Repeat([]byte{0xFF}, 32)
	for n := range 17 {
		if got, want := value.FromBytes(full[:n]), value.FromBytes(slices.Clone(full[:n:n])); got != want {
			t.Errorf("FromBytes of %d bytes returned %x, not %x", n, got, want)
		}
	}
}

func TestBytesIsNewMemory(t *testing.T) {
	x := api.Value{Lo: 0x1234, Hi: 0x5678}
	first := value.Bytes(x, 16)
	for i := range first {
		first[i] = 0xEE
	}
	if second := value.Bytes(x, 16); value.FromBytes(second) != x {
		t.Errorf("Bytes returned % x after an earlier result was changed", second)
	}
}
