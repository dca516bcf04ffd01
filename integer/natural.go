package integer

import "math/bits"

// This file has numbers that are not below 0, as limbs: the digits to the base 2^32, the least significant first, without zeros at the top.
// Every result has memory of its own.

// trim cuts off the zeros at the top.
func trim(a []uint32) []uint32 {
	n := len(a)
	for n > 0 && a[n-1] == 0 {
		n--
	}
	return a[:n]
}

func clone(a []uint32) []uint32 { return append([]uint32(nil), a...) }

// split returns the limbs of a word.
func split(n uint64) []uint32 { return trim([]uint32{uint32(n), uint32(n >> 32)}) }

// join returns the number of at most two limbs.
func join(a []uint32) uint64 { return uint64(limb(a, 1))<<32 | uint64(limb(a, 0)) }

// limb returns a limb, and 0 beyond the top.
func limb(a []uint32, i int) uint32 {
	if i >= len(a) {
		return 0
	}
	return a[i]
}

// bitLength returns the number of binary digits.
func bitLength(a []uint32) int {
	if len(a) == 0 {
		return 0
	}
	return 32*(len(a)-1) + bits.Len32(a[len(a)-1])
}

func compare(a, b []uint32) int {
	if len(a) != len(b) {
		if len(a) < len(b) {
			return -1
		}
		return 1
	}
	for i := len(a) - 1; i >= 0; i-- {
		if a[i] != b[i] {
			if a[i] < b[i] {
				return -1
			}
			return 1
		}
	}
	return 0
}

func sum(a, b []uint32) []uint32 {
	size := max(len(a), len(b))
	r := make([]uint32, size+1)
	carry := uint64(0)
	for i := range size {
		t := uint64(limb(a, i)) + uint64(limb(b, i)) + carry
		r[i] = uint32(t)
		carry = t >> 32
	}
	r[size] = uint32(carry)
	return trim(r)
}

// difference returns a - b, for b not above a.
func difference(a, b []uint32) []uint32 {
	r := make([]uint32, len(a))
	borrow := uint64(0)
	for i := range a {
		t := uint64(a[i]) - uint64(limb(b, i)) - borrow
		r[i] = uint32(t)
		borrow = t >> 63
	}
	return trim(r)
}

func product(a, b []uint32) []uint32 {
	r := make([]uint32, len(a)+len(b))
	for i, x := range a {
		if x == 0 {
			continue
		}
		carry := uint64(0)
		for k, y := range b {
			t := uint64(x)*uint64(y) + uint64(r[i+k]) + carry
			r[i+k] = uint32(t)
			carry = t >> 32
		}
		r[i+len(b)] = uint32(carry)
	}
	return trim(r)
}

// shiftUp returns a 2^n.
func shiftUp(a []uint32, n int) []uint32 {
	if len(a) == 0 {
		return nil
	}
	whole, part := n/32, n%32
	r := make([]uint32, len(a)+whole+1)
	for i, x := range a {
		t := uint64(x) << part
		r[i+whole] |= uint32(t)
		r[i+whole+1] = uint32(t >> 32)
	}
	return trim(r)
}

// shiftDown returns a/2^n, rounded down.
func shiftDown(a []uint32, n int) []uint32 {
	whole, part := n/32, n%32
	if whole >= len(a) {
		return nil
	}
	r := make([]uint32, len(a)-whole)
	for i := range r {
		t := uint64(limb(a, i+whole+1))<<32 | uint64(a[i+whole])
		r[i] = uint32(t >> part)
	}
	return trim(r)
}

// lowBits returns the number that the n lowest bits of a make.
func lowBits(a []uint32, n int) []uint32 {
	if n >= 32*len(a) {
		return trim(clone(a))
	}
	r := clone(a[:(n+31)/32])
	if n%32 > 0 {
		r[len(r)-1] &= 1<<(n%32) - 1
	}
	return trim(r)
}

// ones returns 2^n - 1.
func ones(n int) []uint32 { return difference(shiftUp([]uint32{1}, n), []uint32{1}) }

// addTo adds a small number to a product with a small number, in the memory of a, or behind it.
func addTo(a []uint32, factor, n uint32) []uint32 {
	carry := uint64(n)
	for i, x := range a {
		t := uint64(x)*uint64(factor) + carry
		a[i] = uint32(t)
		carry = t >> 32
	}
	if carry > 0 {
		a = append(a, uint32(carry))
	}
	return a
}

// divideSmall divides a by a small number in the memory of a, and returns the remainder.
func divideSmall(a []uint32, by uint32) ([]uint32, uint32) {
	rest := uint64(0)
	for i := len(a) - 1; i >= 0; i-- {
		t := rest<<32 | uint64(a[i])
		a[i] = uint32(t / uint64(by))
		rest = t % uint64(by)
	}
	return trim(a), uint32(rest)
}
