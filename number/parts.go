package number

import (
	"commonform/api"
	"commonform/integer"
	"commonform/rational"
)

// Ways of rounding a quotient to an integer.
const (
	Floor = iota
	Ceiling
	Truncate
	Round
)

// Quotient returns x/y, rounded to an integer, and the remainder.
func Quotient(way int, x, y api.Form) (quotient, remainder api.Form, e api.Errno) {
	s, t, e := parseReals(x, y)
	if e != api.OK {
		return api.Form{}, api.Form{}, e
	}
	q, r, e := s.quotient(way, t)
	if e != api.OK {
		return api.Form{}, api.Form{}, e
	}
	quotient, e = q.form()
	if e != api.OK {
		return api.Form{}, api.Form{}, e
	}
	remainder, e = r.form()
	if e != api.OK {
		return api.Form{}, api.Form{}, e
	}
	return quotient, remainder, api.OK
}

func (s scalar) quotient(way int, t scalar) (quotient, remainder scalar, e api.Errno) {
	q, rest, e := s.exactly().Quotient(way, t.exactly())
	if e != api.OK {
		return scalar{}, scalar{}, e
	}
	if _, _, e := together(s, t); e != api.OK {
		return scalar{}, scalar{}, e
	}
	r, e := exactScalar(rest).as(max(s.kind, t.kind))
	return exactScalar(rational.Of(q)), r, e
}

// Complex returns the number with a real and an imaginary part.
func Complex(re, im api.Form) (api.Form, api.Errno) {
	a, b, e := parseReals(re, im)
	if e != api.OK {
		return api.Form{}, e
	}
	return finish(paired(a, b))
}

// Real returns the real part of x.
func Real(x api.Form) (api.Form, api.Errno) {
	v, e := parse(x)
	return finish(realValue(v.parts[0]), e)
}

// Imaginary returns the imaginary part of x.
func Imaginary(x api.Form) (api.Form, api.Errno) {
	v, e := parse(x)
	if e != api.OK {
		return api.Form{}, e
	}
	if v.pair {
		return v.parts[1].form()
	}
	return scalar{kind: v.parts[0].kind}.form()
}

// Conjugate returns the conjugate of x.
func Conjugate(x api.Form) (api.Form, api.Errno) {
	v, e := parse(x)
	if e != api.OK {
		return api.Form{}, e
	}
	if v.pair {
		v.parts[1] = v.parts[1].negated()
	}
	return v.form()
}

// Numerator returns the numerator of a rational x.
func Numerator(x api.Form) (api.Form, api.Errno) {
	return partOfRatio(x, rational.Ratio.Numerator)
}

// Denominator returns the denominator of a rational x.
func Denominator(x api.Form) (api.Form, api.Errno) {
	return partOfRatio(x, rational.Ratio.Denominator)
}

func partOfRatio(x api.Form, part func(rational.Ratio) integer.Int) (api.Form, api.Errno) {
	s, e := parseReal(x)
	if e != api.OK {
		return api.Form{}, e
	}
	if s.kind != exact {
		return api.Form{}, api.ErrType
	}
	return exactScalar(rational.Of(part(s.ratio))).form()
}
