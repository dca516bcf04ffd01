package integer

import "math/bits"

// divide returns the quotient, rounded down, and the remainder, for a b that is not 0.
func divide(a, b []uint32) (quotient, remainder []uint32) {
	if compare(a, b) < 0 {
		return nil, clone(a)
	}
	if len(b) == 1 {
		q, rest := divideSmall(clone(a), b[0])
		return q, split(uint64(rest))
	}
	return divideLong(a, b)
}

// divideLong divides by at least two limbs. The divisor is shifted until its top bit is set: a quotient digit that is guessed from the top limbs is then at most 1 too great.
func divideLong(a, b []uint32) (quotient, remainder []uint32) {
	shift := bits.LeadingZeros32(b[len(b)-1])
	divisor := shiftUp(b, shift)
	rest := make([]uint32, len(a)+1)
	copy(rest, shiftUp(a, shift))
	q := make([]uint32, len(a)-len(b)+1)
	for i := len(q) - 1; i >= 0; i-- {
		part := rest[i : i+len(b)+1]
		digit := guess(part, divisor)
		if subtract(part, divisor, digit) {
			addBack(part, divisor)
			digit--
		}
		q[i] = digit
	}
	return trim(q), shiftDown(trim(rest), shift)
}

// guess returns the quotient's next digit, or 1 more.
func guess(part, divisor []uint32) uint32 {
	n := len(divisor)
	first, second := uint64(divisor[n-1]), uint64(divisor[n-2])
	top := uint64(part[n])<<32 | uint64(part[n-1])
	digit, rest := top/first, top%first
	for digit >= 1<<32 || digit*second > rest<<32|uint64(part[n-2]) {
		digit--
		rest += first
		if rest >= 1<<32 {
			break
		}
	}
	return uint32(digit)
}

// subtract takes the product of the divisor and the digit away from part, and reports whether this was too much.
func subtract(part, divisor []uint32, digit uint32) bool {
	carry, borrow := uint64(0), uint64(0)
	for i, x := range divisor {
		t := uint64(x)*uint64(digit) + carry
		carry = t >> 32
		d := uint64(part[i]) - uint64(uint32(t)) - borrow
		part[i] = uint32(d)
		borrow = d >> 63
	}
	d := uint64(part[len(divisor)]) - carry - borrow
	part[len(divisor)] = uint32(d)
	return d>>63 == 1
}

func addBack(part, divisor []uint32) {
	carry := uint64(0)
	for i, x := range divisor {
		t := uint64(part[i]) + uint64(x) + carry
		part[i] = uint32(t)
		carry = t >> 32
	}
	part[len(divisor)] += uint32(carry)
}
