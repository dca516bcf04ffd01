package float

import (
	"commonform/api"
	"commonform/integer"
	"commonform/rational"
)

// rounded returns the float nearest to n/d, or to -n/d if minus is set, for n and d above 0, which need not be in lowest terms.
func rounded(f Format, minus bool, n, d integer.Int) (uint64, api.Errno) {
	least, most := leastExponents[f], mostExponents[f]
	// n/d lies between 2^(size-1) and 2^(size+1)
	size := n.Length() - d.Length()
	if size < least-1 {
		return signed(f, minus), api.OK
	}
	if size > most+precisions[f]+1 {
		return 0, api.ErrOver
	}
	exponent := max(size-precisions[f], least)
	significand, ok := units(f, n, d, exponent)
	if !ok {
		exponent++
		significand, _ = units(f, n, d, exponent)
	}
	if significand == 1<<precisions[f] {
		significand, exponent = significand/2, exponent+1
	}
	if exponent > most {
		return 0, api.ErrOver
	}
	return signed(f, minus) | pack(f, significand, exponent), api.OK
}

// units returns n/d in units of 2^exponent, rounded to an integer; false if it has too many digits ahead of the rounding.
func units(f Format, n, d integer.Int, exponent int) (uint64, bool) {
	n, d = scaled(n, d, -exponent)
	q, rest, _ := n.Divide(d)
	count, _ := q.Int64()
	if q.Length() > precisions[f] {
		return 0, false
	}
	if half := rest.Add(rest).Cmp(d); half > 0 || half == 0 && count&1 == 1 {
		count++
	}
	return uint64(count), true
}

// pack returns the bits of a float that is not below 0. (A significand that has its first bit carries 1 into the field of the exponent.)
func pack(f Format, significand uint64, exponent int) uint64 {
	return uint64(exponent-leastExponents[f])<<(precisions[f]-1) + significand
}

// roundedPower returns the float nearest to n 2^k, or to -n 2^k, for n above 0.
func roundedPower(f Format, minus bool, n integer.Int, k int) (uint64, api.Errno) {
	top, bottom := scaled(n, integer.New(1), k)
	return rounded(f, minus, top, bottom)
}

// Nearest returns the float that is nearest to a fraction.
func Nearest(f Format, x rational.Ratio) (uint64, api.Errno) {
	if e := check(f); e != api.OK || x.Sign() == 0 {
		return 0, e
	}
	return rounded(f, x.Sign() < 0, x.Numerator().Abs(), x.Denominator())
}

// Convert returns the float of another format that is nearest to a float.
func Convert(f Format, x uint64, to Format) (uint64, api.Errno) {
	if !f.right() || !to.right() {
		return 0, api.ErrArg
	}
	if e := check(f, x); e != api.OK {
		return 0, e
	}
	return rescaled(f, x, 0, to)
}

// Scale returns a float times 2 to the power of n.
func Scale(f Format, x uint64, n int) (uint64, api.Errno) {
	if e := check(f, x); e != api.OK {
		return 0, e
	}
	// what is beyond 4000 gives the same: 0, or more than the greatest float
	return rescaled(f, x, min(max(n, -4000), 4000), f)
}

// rescaled returns the float of a format nearest to a float times 2^n; 0 and -0 stay.
func rescaled(f Format, x uint64, n int, to Format) (uint64, api.Errno) {
	m, exponent := parts(f, x)
	if m == 0 {
		return signed(to, negative(f, x)), api.OK
	}
	return roundedPower(to, negative(f, x), whole(m), exponent+n)
}
