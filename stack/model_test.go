package stack_test

import (
	"math/big"

	"spillframe/api"
)

// cell is a byte of the model's stack.
type cell struct {
	b    byte
	used bool
}

// model is a stack as chapter 9 describes it, a list of cells; each promise is followed byte by byte, with numbers of any size.
type model struct {
	cells []cell
	sp    int
}

// modelOf returns the model of a right stack.
func modelOf(s api.Stack) model {
	m := model{sp: s.SP}
	for i, b := range s.Bytes {
		m.cells = append(m.cells, cell{b, s.Used[i]})
	}
	return m
}

// stack returns the stack that m is the model of.
func (m model) stack() api.Stack {
	s := api.Stack{SP: m.sp}
	for _, c := range m.cells {
		s.Bytes = append(s.Bytes, c.b)
		s.Used = append(s.Used, c.used)
	}
	return s
}

func sum(x, y int) *big.Int {
	return new(big.Int).Add(big.NewInt(int64(x)), big.NewInt(int64(y)))
}

// push is the first half of P9.2.
func (m *model) push(size int) api.Errno {
	if size > m.sp {
		return api.ErrOverflow
	}
	if size < 0 {
		return api.ErrRange
	}
	for range size {
		m.sp--
		m.cells[m.sp].used = false
	}
	return api.OK
}

// pop is the second half of P9.2.
func (m *model) pop(size int) api.Errno {
	if size < 0 || sum(m.sp, size).Cmp(big.NewInt(int64(len(m.cells)))) > 0 {
		return api.ErrRange
	}
	for range size {
		m.sp++
	}
	return api.OK
}

// at returns the indices of size bytes from the byte off on, or false if P9.3 gives them an error.
func (m *model) at(off, size int) ([]int, bool) {
	if size != 1 && size != 2 && size != 4 && size != 8 && size != 16 || off < 0 {
		return nil, false
	}
	first := sum(m.sp, off)
	var l []int
	for i := range size {
		n := new(big.Int).Add(first, big.NewInt(int64(i)))
		if n.Cmp(big.NewInt(int64(len(m.cells)))) >= 0 {
			return nil, false
		}
		l = append(l, int(n.Int64()))
	}
	return l, true
}

// defined reports whether all these bytes are used.
func (m *model) defined(l []int) bool {
	for _, i := range l {
		if !m.cells[i].used {
			return false
		}
	}
	return true
}

// load is Load of P9.3.
func (m *model) load(off, size int) (api.Value, bool, api.Errno) {
	l, ok := m.at(off, size)
	if !ok {
		return api.Value{}, false, api.ErrRange
	}
	if !m.defined(l) {
		return api.Value{}, false, api.OK
	}
	v := new(big.Int)
	for i, n := range l {
		v.Add(v, new(big.Int).Lsh(big.NewInt(int64(m.cells[n].b)), uint(8*i)))
	}
	return words(v), true, api.OK
}

// store is Store of P9.3.
func (m *model) store(off, size int, v api.Value) api.Errno {
	l, ok := m.at(off, size)
	if !ok {
		return api.ErrRange
	}
	rest := number(v)
	for _, n := range l {
		low := new(big.Int)
		rest.DivMod(rest, big.NewInt(256), low)
		m.cells[n] = cell{byte(low.Int64()), true}
	}
	return api.OK
}

// move is Move of P9.3: all bytes are read before one is written.
func (m *model) move(to, from, size int) (bool, api.Errno) {
	target, ok := m.at(to, size)
	source, also := m.at(from, size)
	if !ok || !also {
		return false, api.ErrRange
	}
	if !m.defined(source) {
		return false, api.OK
	}
	var read []cell
	for _, n := range source {
		read = append(read, m.cells[n])
	}
	for i, n := range target {
		m.cells[n] = read[i]
	}
	return true, api.OK
}

// number returns Lo + 2^64 Hi.
func number(v api.Value) *big.Int {
	n := new(big.Int).SetUint64(v.Hi)
	n.Lsh(n, 64)
	return n.Add(n, new(big.Int).SetUint64(v.Lo))
}

// words is the inverse of number.
func words(n *big.Int) api.Value {
	low := new(big.Int).And(n, new(big.Int).SetUint64(1<<64-1))
	return api.Value{Lo: low.Uint64(), Hi: new(big.Int).Rsh(n, 64).Uint64()}
}
