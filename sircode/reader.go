package sircode

import (
	"bytes"

	"spillframe/api"
	"spillframe/varint"
)

const (
	greatest         = 1<<31 - 1 // number other than Imm
	greatestExponent = 24
)

// reader reads one thing after the other from the bytes of rest. Its error is sticky: after the first one it reads only zeros and keeps that error.
type reader struct {
	rest []byte
	err  api.Errno
}

// open returns a reader of what lies between the beginning and the checksum of an encoded program.
func open(b []byte) reader {
	switch {
	case len(b) > api.MaxBytes:
		return reader{err: api.ErrLimit}
	case len(b) < shortest:
		return reader{err: api.ErrShort}
	}
	content, crc := b[:len(b)-crcBytes], b[len(b)-crcBytes:]
	if !bytes.HasPrefix(content, []byte(magic)) || !bytes.Equal(crc, checksum(content)) {
		return reader{err: api.ErrFormat}
	}
	return reader{rest: content[len(magic):]}
}

func (r *reader) fail(e api.Errno) {
	if r.err == api.OK {
		r.err = e
	}
}

// end reads the end: it fails if something is left.
func (r *reader) end() {
	if len(r.rest) > 0 {
		r.fail(api.ErrFormat)
	}
}

// take reads n bytes.
func (r *reader) take(n int) []byte {
	if n > len(r.rest) {
		r.fail(api.ErrShort)
	}
	if r.err != api.OK {
		return nil
	}
	taken := r.rest[:n]
	r.rest = r.rest[n:]
	return taken
}

// word reads a number that may be any word.
func (r *reader) word() uint64 {
	v, next, e := varint.Uint(r.rest, 0)
	r.fail(e)
	if r.err != api.OK {
		return 0
	}
	r.rest = r.rest[next:]
	return v
}

// limited reads a number, with the error e if it is greater than most.
func (r *reader) limited(most int, e api.Errno) int {
	v := r.word()
	switch {
	case v > greatest:
		r.fail(api.ErrRange)
		return 0
	case int(v) > most:
		r.fail(e)
		return 0
	}
	return int(v)
}

func (r *reader) number() int {
	return r.limited(greatest, api.ErrRange)
}

func (r *reader) count(most int) int {
	return r.limited(most, api.ErrLimit)
}

// description reads the length of a description and its bytes.
func (r *reader) description() []byte {
	return r.take(r.number())
}

// function reads the length of a description and what it describes.
func (r *reader) function() api.Func {
	d := reader{rest: r.description()}
	f := api.Func{Params: d.number(), Slots: d.slots(), Code: d.code()}
	d.end()
	r.fail(d.err)
	return f
}

func (r *reader) slots() []api.Slot {
	l := make([]api.Slot, r.count(api.MaxSlots))
	for i := range l {
		l[i] = api.Slot{Size: r.number(), Align: 1 << r.limited(greatestExponent, api.ErrRange)}
	}
	return l
}

func (r *reader) code() []api.Instr {
	l := make([]api.Instr, r.count(api.MaxCode))
	for i := range l {
		l[i] = r.instr()
	}
	return l
}

func (r *reader) instr() api.Instr {
	x := api.Instr{Op: r.op()}
	count, imm := operands(x.Op)
	n := [3]int{}
	for i := range count {
		n[i] = r.number()
	}
	x.A, x.B, x.C = n[0], n[1], n[2]
	if imm {
		x.Imm = r.word()
	}
	return x
}

func (r *reader) op() int {
	b := r.take(1)
	switch {
	case len(b) == 0:
		return 0
	case b[0] >= api.Ops:
		r.fail(api.ErrRange)
		return 0
	}
	return int(b[0])
}
