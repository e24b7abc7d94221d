// Package arith: words and flags: see doc/01-arith.md.
package arith

import (
	"innkeeper/api"
)

const signBit = 1 << 31

// Do performs op on a and b: the result, its flags, and whether op could be performed.
func Do(op int, a, b uint32) (uint32, uint32, bool) {
	var result uint32
	switch op {
	case api.Add:
		return a + b, addFlags(a, b), true
	case api.Sub:
		return a - b, subFlags(a, b), true
	case api.Cmp:
		// The flags tell of the difference, which is dropped, and not of the 0.
		return 0, subFlags(a, b), true
	case api.And:
		result = a & b
	case api.Or:
		result = a | b
	case api.Xor:
		result = a ^ b
	case api.Shl:
		result = a << b
	case api.Shr:
		result = a >> b
	case api.Mul:
		result = a * b
	case api.Div:
		if b == 0 {
			return 0, 0, false
		}
		result = a / b
	default:
		return 0, 0, false
	}
	return result, wordFlags(result), true
}

// Flags is Do without the result.
func Flags(op int, a, b uint32) (uint32, bool) {
	_, flags, ok := Do(op, a, b)
	return flags, ok
}

// Holds tells whether the conditional jump op is taken, and whether op is one.
func Holds(op int, flags uint32) (bool, bool) {
	switch op {
	case api.Jz:
		return flags&api.Zero != 0, true
	case api.Jnz:
		return flags&api.Zero == 0, true
	case api.Jc:
		return flags&api.Carry != 0, true
	case api.Jn:
		return flags&api.Negative != 0, true
	case api.Jv:
		return flags&api.Overflow != 0, true
	}
	return false, false
}

// Sign widens the lowest byte of b, read as a signed number, to a word.
func Sign(b uint32) uint32 {
	return uint32(int8(b))
}

func wordFlags(result uint32) uint32 {
	var flags uint32
	if result == 0 {
		flags |= api.Zero
	}
	if result&signBit != 0 {
		flags |= api.Negative
	}
	return flags
}

func addFlags(a, b uint32) uint32 {
	sum := a + b
	flags := wordFlags(sum)
	// A sum that wrapped round is less than either of its parts.
	if sum < a {
		flags |= api.Carry
	}
	if (a^sum)&(b^sum)&signBit != 0 {
		flags |= api.Overflow
	}
	return flags
}

func subFlags(a, b uint32) uint32 {
	difference := a - b
	flags := wordFlags(difference)
	if a < b {
		flags |= api.Carry
	}
	if (a^b)&(a^difference)&signBit != 0 {
		flags |= api.Overflow
	}
	return flags
}
