package stack

import (
	"spillframe/api"
	"spillframe/value"
)

// Memory is a stack that its methods change in place, as the functions of the same names change a copy. A run would take too long if each of its steps copied the whole stack.
type Memory struct {
	api.Stack
}

// Push is the function Push in place.
func (m *Memory) Push(size int) api.Errno {
	switch {
	case !Check(m.Stack) || size < 0:
		return api.ErrRange
	case size > m.SP:
		return api.ErrOverflow
	}
	m.SP -= size
	clear(m.Used[m.SP : m.SP+size])
	return api.OK
}

// Pop is the function Pop in place.
func (m *Memory) Pop(size int) api.Errno {
	if !Check(m.Stack) || size < 0 || size > len(m.Bytes)-m.SP {
		return api.ErrRange
	}
	m.SP += size
	return api.OK
}

// Store is the function Store in place.
func (m *Memory) Store(off, size int, v api.Value) api.Errno {
	if !fits(m.Stack, off, size) {
		return api.ErrRange
	}
	m.write(m.SP+off, value.Bytes(v, size))
	return api.OK
}

// Move is the function Move in place.
func (m *Memory) Move(to, from, size int) (bool, api.Errno) {
	if !fits(m.Stack, to, size) || !fits(m.Stack, from, size) {
		return false, api.ErrRange
	}
	at := m.SP + from
	if !used(m.Stack, at, size) {
		return false, api.OK
	}
	m.write(m.SP+to, m.Bytes[at:at+size])
	return true, api.OK
}

// write copies b to the bytes from at on, all of which the stack has, and marks them as used. They may be some of its own.
func (m *Memory) write(at int, b []byte) {
	copy(m.Bytes[at:], b)
	for i := range b {
		m.Used[at+i] = true
	}
}
