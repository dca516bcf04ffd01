package number

import (
	"commonform/api"
	"commonform/float"
	"commonform/integer"
	"commonform/rational"
)

// Rational returns the exact value of a real x.
func Rational(x api.Form) (api.Form, api.Errno) {
	s, e := parseReal(x)
	return finish(realValue(exactScalar(s.exactly())), e)
}

// Rationalize returns the simplest rational number that is read as the float x.
func Rationalize(x api.Form) (api.Form, api.Errno) {
	s, e := parseReal(x)
	if e != api.OK {
		return api.Form{}, e
	}
	switch {
	case s.kind == exact || s.sign() == 0:
		return exactScalar(s.exactly()).form()
	case s.minus():
		return exactScalar(s.negated().simplest().Neg()).form()
	}
	return exactScalar(s.simplest()).form()
}

// simplest returns the simplest fraction to which a float above 0 is the nearest one.
func (s scalar) simplest() rational.Ratio {
	x := s.exactly()
	low, high := s.bounds(x)
	// a bound itself is rounded to an even significand: for an odd one both are left out
	if s.bits&1 == 1 {
		gap := narrowGap(low, high, x)
		low, high = low.Add(gap), high.Sub(gap)
	}
	simple, _ := rational.Simplest(low, high)
	return simple
}

// narrowGap returns less than the distance of each bound from any other fraction whose denominator is not above that of x. (The simplest fraction has no greater one.)
func narrowGap(low, high, x rational.Ratio) rational.Ratio {
	below := low.Denominator().Mul(high.Denominator()).Mul(x.Denominator())
	gap, _ := rational.New(integer.New(1), below.Add(below))
	return gap
}

func half() rational.Ratio {
	x, _ := rational.New(integer.New(1), integer.New(2))
	return x
}

// bounds returns the fractions between which a float x, above 0, is the nearest one.
func (s scalar) bounds(x rational.Ratio) (low, high rational.Ratio) {
	below, _ := float.Next(format(s.kind), s.bits, false)
	down := x.Sub(scalar{kind: s.kind, bits: below}.exactly())
	up := down // above the greatest float the bound is as far away as the one below it
	if above, e := float.Next(format(s.kind), s.bits, true); e == api.OK {
		up = scalar{kind: s.kind, bits: above}.exactly().Sub(x)
	}
	return x.Sub(down.Mul(half())), x.Add(up.Mul(half()))
}

// Float returns x as a float of a kind.
func Float(x api.Form, kind int) (api.Form, api.Errno) {
	v, e := parse(x)
	if e != api.OK {
		return api.Form{}, e
	}
	if kind != api.FormSingle && kind != api.FormDouble {
		return api.Form{}, api.ErrArg
	}
	to := single + kind - api.FormSingle
	re, e := v.parts[0].as(to)
	if e != api.OK || !v.pair {
		return finish(realValue(re), e)
	}
	im, e := v.parts[1].as(to)
	return finish(value{parts: [2]scalar{re, im}, pair: true}, e)
}
