package integer

import (
	"math/bits"

	"commonform/api"
)

// complement returns the limbs of x, or of -1 - x for x below 0: the bits that differ from the sign.
func (x Int) complement() []uint32 {
	if x.negative {
		return difference(x.limbs, []uint32{1})
	}
	return clone(x.limbs)
}

// words returns the n lowest words of x in two's complement.
func (x Int) words(n int) []uint32 {
	w := make([]uint32, n)
	copy(w, x.limbs)
	if x.negative {
		negate(w)
	}
	return w
}

// negate changes a number of two's complement to its opposite.
func negate(w []uint32) {
	carry := uint64(1)
	for i := range w {
		t := uint64(^w[i]) + carry
		w[i] = uint32(t)
		carry = t >> 32
	}
}

// signed returns the integer with these words, whose top bit is the sign, and takes them over.
func signed(w []uint32) Int {
	negative := w[len(w)-1]>>31 == 1
	if negative {
		negate(w)
	}
	return wrap(negative, w)
}

// Shift returns x times 2 to the power of n, rounded down.
func (x Int) Shift(n int) (Int, api.Errno) {
	if n > 0 {
		if x.Sign() != 0 && n > api.MaxBits-x.Length() {
			return Int{}, api.ErrLarge
		}
		return wrap(x.negative, shiftUp(x.limbs, n)), api.OK
	}
	// a shift down by all bits leaves the sign, and so does each greater one
	down := -max(n, -x.Length())
	r := wrap(false, shiftDown(x.complement(), down))
	if x.negative {
		r = wrap(true, sum(r.limbs, []uint32{1}))
	}
	return r, api.OK
}

// Boole combines x and y bit by bit.
func (x Int) Boole(op int, y Int) (Int, api.Errno) {
	if op < 0 || op > 15 {
		return Int{}, api.ErrArg
	}
	combine := combiner(op)
	n := max(len(x.limbs), len(y.limbs)) + 1
	a, b := x.words(n), y.words(n)
	for i := range a {
		a[i] = combine(a[i], b[i])
	}
	return signed(a), api.OK
}

// combiner returns the operation with a table of four bits: bit 2 a + b is the result for the bits a and b.
func combiner(table int) func(a, b uint32) uint32 {
	return func(a, b uint32) uint32 {
		result := uint32(0)
		for place := range 4 {
			if table>>place&1 == 1 {
				result |= matching(a, place>>1) & matching(b, place&1)
			}
		}
		return result
	}
}

// matching returns the word whose bits are set where those of a are as said.
func matching(a uint32, bit int) uint32 {
	if bit == 0 {
		return ^a
	}
	return a
}

// Length returns the number of bits of x in two's complement, without the sign.
func (x Int) Length() int { return bitLength(x.complement()) }

// Count returns the number of bits of x that differ from its sign.
func (x Int) Count() int {
	n := 0
	for _, word := range x.complement() {
		n += bits.OnesCount32(word)
	}
	return n
}

// Bit reports whether a bit of x is set.
func (x Int) Bit(i int) bool {
	if i < 0 {
		return false
	}
	if i/32 >= len(x.limbs) {
		return x.negative
	}
	return x.words(i/32 + 1)[i/32]>>(i%32)&1 == 1
}

// Field returns some bits of x as a number.
func (x Int) Field(size, position int) (Int, api.Errno) {
	if !inBits(size) || !inBits(position) {
		return Int{}, api.ErrArg
	}
	return wrap(false, x.field(size, position)), api.OK
}

func (x Int) field(size, position int) []uint32 {
	w := x.words((size+position+31)/32 + 1)
	return lowBits(shiftDown(trim(w), position), size)
}

// Deposit returns x with some bits replaced.
func (x Int) Deposit(part Int, size, position int) (Int, api.Errno) {
	if !inBits(size) || !inBits(position) {
		return Int{}, api.ErrArg
	}
	mask, field := shiftUp(ones(size), position), shiftUp(part.field(size, 0), position)
	w := x.words(max(len(x.limbs), len(mask)) + 1)
	for i := range w {
		w[i] = w[i]&^limb(mask, i) | limb(field, i)
	}
	return signed(w), api.OK
}

func inBits(n int) bool { return n >= 0 && n <= api.MaxBits }
