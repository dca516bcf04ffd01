// Package rational has fractions of any size: arithmetic, quotients that are rounded in four ways, continued fractions, and the simplest fraction between two others.
package rational

import (
	"commonform/api"
	"commonform/integer"
)

// Ratio is a fraction of any size, in lowest terms. The zero value is 0. Values never change.
type Ratio struct {
	top    integer.Int
	bottom integer.Int // above 0, or 0 instead of 1: so the zero value is a fraction, too
}

// lowest returns n/d, for a d that is not 0.
func lowest(n, d integer.Int) Ratio {
	if d.Sign() < 0 {
		n, d = n.Neg(), d.Neg()
	}
	common := n.Gcd(d)
	if common.Cmp(integer.New(1)) == 0 {
		return Ratio{n, d}
	}
	n, _, _ = n.Divide(common)
	d, _, _ = d.Divide(common)
	return Ratio{n, d}
}

// New returns n/d.
func New(n, d integer.Int) (Ratio, api.Errno) {
	if d.Sign() == 0 {
		return Ratio{}, api.ErrZero
	}
	return lowest(n, d), api.OK
}

// Of returns the fraction that is an integer.
func Of(n integer.Int) Ratio { return Ratio{top: n} }

// Numerator returns the numerator in lowest terms.
func (x Ratio) Numerator() integer.Int { return x.top }

// Denominator returns the denominator in lowest terms.
func (x Ratio) Denominator() integer.Int {
	if x.bottom.Sign() == 0 {
		return integer.New(1)
	}
	return x.bottom
}

// Whole reports whether x is an integer.
func (x Ratio) Whole() bool { return x.Denominator().Cmp(integer.New(1)) == 0 }

// Sign returns -1, 0 or 1.
func (x Ratio) Sign() int { return x.top.Sign() }

// Cmp returns the sign of x - y.
func (x Ratio) Cmp(y Ratio) int {
	if x.Sign() != y.Sign() {
		if x.Sign() < y.Sign() {
			return -1
		}
		return 1
	}
	return x.top.Mul(y.Denominator()).Cmp(y.top.Mul(x.Denominator()))
}

// Neg returns -x.
func (x Ratio) Neg() Ratio { return Ratio{x.top.Neg(), x.bottom} }

// Abs returns the absolute value of x.
func (x Ratio) Abs() Ratio { return Ratio{x.top.Abs(), x.bottom} }

// Add returns x + y.
func (x Ratio) Add(y Ratio) Ratio {
	if x.Whole() && y.Whole() {
		return Of(x.top.Add(y.top))
	}
	c, d := x.Denominator(), y.Denominator()
	return lowest(x.top.Mul(d).Add(y.top.Mul(c)), c.Mul(d))
}

// Sub returns x - y.
func (x Ratio) Sub(y Ratio) Ratio { return x.Add(y.Neg()) }

// Mul returns the product of x and y.
func (x Ratio) Mul(y Ratio) Ratio {
	if x.Whole() && y.Whole() {
		return Of(x.top.Mul(y.top))
	}
	return lowest(x.top.Mul(y.top), x.Denominator().Mul(y.Denominator()))
}

// Div returns x/y.
func (x Ratio) Div(y Ratio) (Ratio, api.Errno) {
	if y.Sign() == 0 {
		return Ratio{}, api.ErrZero
	}
	return x.Mul(y.inverse()), api.OK
}

// inverse returns 1/x, for an x that is not 0.
func (x Ratio) inverse() Ratio {
	if x.Sign() < 0 {
		return Ratio{x.Denominator().Neg(), x.top.Neg()}
	}
	return Ratio{x.Denominator(), x.top}
}

// Power returns x to the power of n.
func (x Ratio) Power(n int) (Ratio, api.Errno) {
	if n < 0 {
		if x.Sign() == 0 {
			return Ratio{}, api.ErrZero
		}
		// beyond MaxBits only the parity of n still matters, and -n may be no int
		x, n = x.inverse(), -max(n, -2*api.MaxBits-n&1)
	}
	top, e := x.top.Power(n)
	if e != api.OK {
		return Ratio{}, e
	}
	bottom, e := x.Denominator().Power(n)
	if e != api.OK {
		return Ratio{}, e
	}
	return Ratio{top, bottom}, api.OK
}

// Root returns the square root of x, if it is a fraction.
func (x Ratio) Root() (Ratio, api.Errno) {
	if x.Sign() < 0 {
		return Ratio{}, api.ErrArg
	}
	top, ok := exactRoot(x.top)
	if !ok {
		return Ratio{}, api.ErrNone
	}
	bottom, ok := exactRoot(x.Denominator())
	if !ok {
		return Ratio{}, api.ErrNone
	}
	return Ratio{top, bottom}, api.OK
}

// exactRoot returns the square root of a number that is not below 0, and whether it is one.
func exactRoot(x integer.Int) (integer.Int, bool) {
	root, _ := x.Root()
	return root, root.Mul(root).Cmp(x) == 0
}
