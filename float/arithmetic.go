package float

import (
	"cmp"

	"commonform/api"
	"commonform/integer"
)

// Neg returns a float with the opposite sign.
func Neg(f Format, x uint64) (uint64, api.Errno) {
	if e := check(f, x); e != api.OK {
		return 0, e
	}
	return x ^ f.signBit(), api.OK
}

// Add returns the sum of two floats.
func Add(f Format, x, y uint64) (uint64, api.Errno) {
	if e := check(f, x, y); e != api.OK {
		return 0, e
	}
	_, first := parts(f, x)
	_, second := parts(f, y)
	unit := min(first, second)
	sum := inUnits(f, x, unit).Add(inUnits(f, y, unit))
	if sum.Sign() == 0 {
		return signed(f, zero(f, x) && negative(f, x) && negative(f, y)), api.OK
	}
	return roundedPower(f, sum.Sign() < 0, sum.Abs(), unit)
}

// inUnits returns the value of a float in units of 2^unit, for a unit that is not above its exponent.
func inUnits(f Format, x uint64, unit int) integer.Int {
	m, exponent := parts(f, x)
	n := raised(whole(m), exponent-unit)
	if negative(f, x) {
		return n.Neg()
	}
	return n
}

// Sub returns the difference of two floats.
func Sub(f Format, x, y uint64) (uint64, api.Errno) {
	if e := check(f, x, y); e != api.OK {
		return 0, e
	}
	return Add(f, x, y^f.signBit())
}

// Mul returns the product of two floats.
func Mul(f Format, x, y uint64) (uint64, api.Errno) {
	if e := check(f, x, y); e != api.OK {
		return 0, e
	}
	minus := negative(f, x) != negative(f, y)
	if zero(f, x) || zero(f, y) {
		return signed(f, minus), api.OK
	}
	m, first := parts(f, x)
	n, second := parts(f, y)
	return roundedPower(f, minus, whole(m).Mul(whole(n)), first+second)
}

// Div returns the quotient of two floats.
func Div(f Format, x, y uint64) (uint64, api.Errno) {
	if e := check(f, x, y); e != api.OK {
		return 0, e
	}
	minus := negative(f, x) != negative(f, y)
	switch {
	case zero(f, y):
		return 0, api.ErrZero
	case zero(f, x):
		return signed(f, minus), api.OK
	}
	m, first := parts(f, x)
	n, second := parts(f, y)
	top, bottom := scaled(whole(m), whole(n), first-second)
	return rounded(f, minus, top, bottom)
}

// Root returns the square root of a float.
func Root(f Format, x uint64) (uint64, api.Errno) {
	e := check(f, x)
	switch {
	case e != api.OK:
		return 0, e
	case zero(f, x):
		return x, api.OK
	case negative(f, x):
		return 0, api.ErrArg
	}
	m, exponent := parts(f, x)
	// an even exponent, and 64 digits of the root at least
	low := 128 + exponent&1
	square := raised(whole(m), low)
	root, _ := square.Root()
	// half a unit behind the root stands for all that is cut off
	twice := root.Add(root)
	if root.Mul(root).Cmp(square) != 0 {
		twice = twice.Add(integer.New(1))
	}
	return roundedPower(f, false, twice, (exponent-low)/2-1)
}

// Compare compares two floats, exactly.
func Compare(f Format, x uint64, g Format, y uint64) (int, api.Errno) {
	if !f.right() || !g.right() {
		return 0, api.ErrArg
	}
	if e := check(f, x); e != api.OK {
		return 0, e
	}
	if e := check(g, y); e != api.OK {
		return 0, e
	}
	// each float is a Double, too
	x, _ = rescaled(f, x, 0, Double)
	y, _ = rescaled(g, y, 0, Double)
	return cmp.Compare(place(Double, x), place(Double, y)), api.OK
}
