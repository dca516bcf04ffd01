package number

import (
	"commonform/api"
	"commonform/integer"
	"commonform/rational"
)

// wholes returns integers; element by element the error of a number, or ErrType for one that is no integer.
func wholes(l []api.Form) ([]integer.Int, api.Errno) {
	var n []integer.Int
	for _, x := range l {
		s, e := parseReal(x)
		if e != api.OK {
			return nil, e
		}
		if x.Kind != api.FormInt {
			return nil, api.ErrType
		}
		n = append(n, s.ratio.Numerator())
	}
	return n, api.OK
}

// wholeForm returns the form of an integer that was calculated with an error or without one.
func wholeForm(n integer.Int, e api.Errno) (api.Form, api.Errno) {
	return finish(realValue(exactScalar(rational.Of(n))), e)
}

// Gcd returns the greatest common divisor of integers.
func Gcd(l []api.Form) (api.Form, api.Errno) {
	n, e := wholes(l)
	if e != api.OK {
		return api.Form{}, e
	}
	var result integer.Int
	for _, x := range n {
		result = result.Gcd(x)
	}
	return wholeForm(result, api.OK)
}

// Lcm returns the least common multiple of integers.
func Lcm(l []api.Form) (api.Form, api.Errno) {
	n, e := wholes(l)
	if e != api.OK {
		return api.Form{}, e
	}
	for _, x := range n {
		if x.Sign() == 0 {
			return wholeForm(x, api.OK)
		}
	}
	result := integer.New(1)
	for _, x := range n {
		part, _, _ := x.Divide(result.Gcd(x))
		result = result.Mul(part.Abs())
		// without a 0 it does not become less
		if result.Length() > api.MaxBits {
			return api.Form{}, api.ErrLarge
		}
	}
	return wholeForm(result, api.OK)
}

// Boole combines two integers bit by bit.
func Boole(op int, x, y api.Form) (api.Form, api.Errno) {
	if _, _, e := parseBoth(x, y); e != api.OK {
		return api.Form{}, e
	}
	n, e := wholes([]api.Form{x, y})
	if e != api.OK {
		return api.Form{}, e
	}
	return wholeForm(n[0].Boole(op, n[1]))
}

// Shift returns an integer times 2 to the power of n, rounded down.
func Shift(x api.Form, n int) (api.Form, api.Errno) {
	l, e := wholes([]api.Form{x})
	if e != api.OK {
		return api.Form{}, e
	}
	return wholeForm(l[0].Shift(n))
}
