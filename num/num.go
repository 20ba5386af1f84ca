// Package num encodes unsigned integers as byte strings, with a fixed width or as varints.
package num

import (
	"lapstone/api"
)

// widthBits says how many bits a number of each width has; no number has width 0.
var widthBits = [9]uint{0, 8, 16, 24, 32, 40, 48, 56, 64}

const (
	groupBits = 7    // bits of a number in one byte of a varint
	moreBit   = 0x80 // set in every byte of a varint but the last one
	maxVar    = 10   // bytes of the longest varint
	maxTop    = 1    // the tenth byte has only the 64th bit of a number
)

// Put appends the n-byte big-endian encoding of v to b.
func Put(b []byte, v uint64, n int) ([]byte, api.Errno) {
	if !isWidth(n) || v>>widthBits[n] != 0 {
		return nil, api.ErrNumRange
	}
	out := extend(b, n)
	push := func(x uint64) { out = append(out, byte(x)) }
	for i := range n {
		push(v >> widthBits[n-1-i])
	}
	return out, api.OK
}

// Get decodes the first n bytes of b and returns the number and the remaining bytes.
func Get(b []byte, n int) (uint64, []byte, api.Errno) {
	if !isWidth(n) {
		return 0, nil, api.ErrNumRange
	}
	if len(b) < n {
		return 0, nil, api.ErrNumShort
	}
	v := uint64(0)
	for i := range n {
		v = v<<8 | uint64(b[i])
	}
	return v, extend(b[n:], 0), api.OK
}

// PutVar appends the varint encoding of v to b.
func PutVar(b []byte, v uint64) []byte {
	n := Size(v)
	out := extend(b, n)
	push := func(x byte) { out = append(out, x) }
	for range n - 1 {
		push(byte(v) | moreBit)
		v >>= groupBits
	}
	push(byte(v))
	return out
}

// GetVar decodes the varint at the beginning of b and returns the number and the remaining bytes.
func GetVar(b []byte) (uint64, []byte, api.Errno) {
	v := uint64(0)
	for i := range min(len(b), maxVar) {
		x := b[i]
		last := x&moreBit == 0
		if i == maxVar-1 && x > maxTop || last && x == 0 && i > 0 {
			return 0, nil, api.ErrNumForm
		}
		v |= uint64(x&^moreBit) << (groupBits * i)
		if last {
			return v, extend(b[i+1:], 0), api.OK
		}
	}
	return 0, nil, api.ErrNumShort
}

// Size returns the length of the varint encoding of v.
func Size(v uint64) int {
	n := 1
	for v >>= groupBits; v != 0; v >>= groupBits {
		n++
	}
	return n
}

// Cmp compares two byte strings and returns -1, 0 or 1.
func Cmp(a, b []byte) int {
	for i := range min(len(a), len(b)) {
		if a[i] != b[i] {
			return order(int(a[i]), int(b[i]))
		}
	}
	return order(len(a), len(b))
}

// isWidth reports whether numbers are encoded in n bytes.
func isWidth(n int) bool { return n >= 1 && n < len(widthBits) }

// extend copies b, with room for more bytes behind it: no answer may share memory with an argument.
func extend(b []byte, more int) []byte {
	out := make([]byte, len(b), len(b)+more)
	copy(out, b)
	return out
}

// order returns -1, 0 or 1 as x is less than, equal to or greater than y.
func order(x, y int) int {
	switch {
	case x < y:
		return -1
	case x > y:
		return 1
	}
	return 0
}
