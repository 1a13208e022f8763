package vm

import "hostel/api"

// combine is what an Op from Add to Same makes of two numbers; Div, which may fault, is not among them.
func combine(op uint8, a, b uint16) uint16 {
	switch op {
	case api.Add:
		return a + b
	case api.Sub:
		return a - b
	case api.Mul:
		return a * b
	case api.And:
		return a & b
	case api.Xor:
		return a ^ b
	case api.Shl:
		return a << (b % 16)
	case api.Shr:
		return a >> (b % 16)
	case api.Sar:
		return uint16(int16(a) >> (b % 16))
	case api.Less:
		return truth(a < b)
	case api.Under:
		return truth(int16(a) < int16(b))
	case api.Same:
		return truth(a == b)
	}
	return 0
}

// truth is 1 for true, else 0.
func truth(is bool) uint16 {
	if is {
		return 1
	}
	return 0
}

// character is the character of a number, in UTF-8.
func character(v uint16) string {
	// The halves of surrogate pairs are no characters.
	if v >= 55296 && v <= 57343 {
		return "\uFFFD"
	}
	return string(rune(v))
}
