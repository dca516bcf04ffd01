package integer

import (
	"math/bits"

	"commonform/api"
)

// Neg returns -x.
func (x Int) Neg() Int { return wrap(!x.negative, clone(x.limbs)) }

// Abs returns the absolute value of x.
func (x Int) Abs() Int { return wrap(false, clone(x.limbs)) }

// Add returns x + y.
func (x Int) Add(y Int) Int {
	if x.negative == y.negative {
		return wrap(x.negative, sum(x.limbs, y.limbs))
	}
	if compare(x.limbs, y.limbs) < 0 {
		return wrap(y.negative, difference(y.limbs, x.limbs))
	}
	return wrap(x.negative, difference(x.limbs, y.limbs))
}

// Sub returns x - y.
func (x Int) Sub(y Int) Int { return x.Add(y.Neg()) }

// Mul returns the product of x and y.
func (x Int) Mul(y Int) Int { return wrap(x.negative != y.negative, product(x.limbs, y.limbs)) }

// Divide returns the quotient of x and y, truncated, and the remainder.
func (x Int) Divide(y Int) (quotient, remainder Int, e api.Errno) {
	if y.Sign() == 0 {
		return Int{}, Int{}, api.ErrZero
	}
	q, r := divide(x.limbs, y.limbs)
	return wrap(x.negative != y.negative, q), wrap(x.negative, r), api.OK
}

// Gcd returns the greatest common divisor of x and y.
func (x Int) Gcd(y Int) Int { return wrap(false, divisor(clone(x.limbs), clone(y.limbs))) }

// Power returns x to the power of n.
func (x Int) Power(n int) (Int, api.Errno) {
	if n < 0 {
		return Int{}, api.ErrArg
	}
	size := bitLength(x.limbs)
	if size < 2 { // 0, 1 and -1 have powers with any exponent
		return x.smallPower(n), api.OK
	}
	// the absolute value of x is at least 2^(size-1): what would be far too large is not calculated
	if n > api.MaxBits || (size-1)*n > api.MaxBits {
		return Int{}, api.ErrLarge
	}
	r := wrap(x.negative && n%2 == 1, raise(x.limbs, n))
	if r.Length() > api.MaxBits {
		return Int{}, api.ErrLarge
	}
	return r, api.OK
}

// smallPower returns the power of 0, 1 or -1.
func (x Int) smallPower(n int) Int {
	if n == 0 {
		return New(1)
	}
	return wrap(x.negative && n%2 == 1, clone(x.limbs))
}

// raise returns a to the power of n, by squares from the top digit of n on.
func raise(a []uint32, n int) []uint32 {
	r := []uint32{1}
	for i := bits.Len(uint(n)) - 1; i >= 0; i-- {
		r = product(r, r)
		if n>>i&1 == 1 {
			r = product(r, a)
		}
	}
	return r
}

// Root returns the square root of x, rounded down.
func (x Int) Root() (Int, api.Errno) {
	if x.negative {
		return Int{}, api.ErrArg
	}
	if x.Sign() == 0 {
		return Int{}, api.OK
	}
	return wrap(false, root(x.limbs)), api.OK
}

// root returns the root of a number that is not 0. It follows Newton from a number that is not below the root: the steps fall until they are there.
func root(a []uint32) []uint32 {
	guess := shiftUp([]uint32{1}, (bitLength(a)+1)/2)
	for {
		q, _ := divide(a, guess)
		next := shiftDown(sum(guess, q), 1)
		if compare(next, guess) >= 0 {
			return guess
		}
		guess = next
	}
}
