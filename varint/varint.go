// Package varint is layer 1: see shared/doc/01-varint.md.
package varint

import (
	"math/bits"

	"spillframe/api"
)

const (
	more       = 0x80 // the bit that says that another byte follows
	digitBits  = 7
	longest    = 10 // bytes of the varint of 2^64 - 1
	polynomial = 0xEDB88320
)

// PutUint returns b with the varint of v appended.
func PutUint(b []byte, v uint64) []byte {
	// Always a copy: the spare capacity of b belongs to the caller.
	out := make([]byte, len(b), len(b)+Len(v))
	copy(out, b)
	for v >= more {
		out = append(out, byte(v)|more)
		v >>= digitBits
	}
	return append(out, byte(v))
}

// Uint returns the number whose varint begins at the offset at, and the offset after it.
func Uint(b []byte, at int) (uint64, int, api.Errno) {
	if at < 0 || at > len(b) {
		return 0, 0, api.ErrShort
	}
	v := uint64(0)
	for i, c := range b[at:] {
		switch {
		case i == longest-1 && c > 1:
			// Nine digits are 63 bits: any other tenth byte makes the varint too long or its value too great.
			return 0, 0, api.ErrFormat
		case c >= more:
			v |= uint64(c-more) << (i * digitBits)
		case c == 0 && i > 0:
			// Without the last digit 0 the varint is shorter.
			return 0, 0, api.ErrFormat
		default:
			return v | uint64(c)<<(i*digitBits), at + i + 1, api.OK
		}
	}
	return 0, 0, api.ErrShort
}

// PutInt returns b with the varint of the zigzag number of v appended.
func PutInt(b []byte, v int) []byte {
	return PutUint(b, zigzag(v))
}

// Int returns the number whose zigzag number begins as a varint at the offset at, and the offset after it.
func Int(b []byte, at int) (int, int, api.Errno) {
	z, next, e := Uint(b, at)
	if e != api.OK {
		return 0, 0, e
	}
	return unzigzag(z), next, api.OK
}

// The complement is -x - 1, so that neither direction leaves 64 bits, not even for the least number.
func zigzag(v int) uint64 {
	if v < 0 {
		return ^(uint64(v) << 1)
	}
	return uint64(v) << 1
}

func unzigzag(z uint64) int {
	if z&1 == 1 {
		return ^int(z >> 1)
	}
	return int(z >> 1)
}

// Len returns the number of bytes of the varint of v.
func Len(v uint64) int {
	// 0 has one digit, as 1 has.
	return (bits.Len64(v|1) + digitBits - 1) / digitBits
}

// Crc returns the CRC-32 checksum of b.
func Crc(b []byte) uint32 {
	crc := ^uint32(0)
	for _, c := range b {
		crc = shiftByte(crc ^ uint32(c))
	}
	return ^crc
}

func shiftByte(crc uint32) uint32 {
	for range 8 {
		crc = crc>>1 ^ (crc&1)*polynomial
	}
	return crc
}
