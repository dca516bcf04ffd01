package number

import (
	"commonform/api"
	"commonform/float"
	"commonform/integer"
	"commonform/rational"
)

func exactScalar(x rational.Ratio) scalar { return scalar{ratio: x} }

func integerScalar(n int64) scalar { return exactScalar(rational.Of(integer.New(n))) }

func realValue(s scalar) value { return value{parts: [2]scalar{s, {}}} }

// exactly returns the value of a real number.
func (s scalar) exactly() rational.Ratio {
	if s.kind == exact {
		return s.ratio
	}
	x, _ := float.Value(format(s.kind), s.bits)
	return x
}

// as returns the number as one of a kind: a float is never taken as an exact number.
func (s scalar) as(kind int) (scalar, api.Errno) {
	if s.kind == kind {
		return s, api.OK
	}
	bits, e := uint64(0), api.OK
	if s.kind == exact {
		bits, e = float.Nearest(format(kind), s.ratio)
	} else {
		bits, e = float.Convert(format(s.kind), s.bits, format(kind))
	}
	if e != api.OK {
		return scalar{}, e
	}
	return scalar{kind: kind, bits: bits}, api.OK
}

// together returns two numbers behind contagion.
func together(x, y scalar) (scalar, scalar, api.Errno) {
	kind := max(x.kind, y.kind)
	a, e := x.as(kind)
	if e != api.OK {
		return scalar{}, scalar{}, e
	}
	b, e := y.as(kind)
	if e != api.OK {
		return scalar{}, scalar{}, e
	}
	return a, b, api.OK
}

// operation calculates with two real numbers of one kind.
type operation func(x, y scalar) (scalar, api.Errno)

// table has an operation for each kind.
type table [3]operation

// tableOf returns the table of an operation of fractions and one of floats.
func tableOf(ratios func(x, y rational.Ratio) (rational.Ratio, api.Errno), floats func(f float.Format, x, y uint64) (uint64, api.Errno)) table {
	t := table{exact: func(x, y scalar) (scalar, api.Errno) {
		r, e := ratios(x.ratio, y.ratio)
		return scalar{ratio: r}, e
	}}
	for kind := single; kind <= double; kind++ {
		t[kind] = func(x, y scalar) (scalar, api.Errno) {
			bits, e := floats(format(kind), x.bits, y.bits)
			return scalar{kind: kind, bits: bits}, e
		}
	}
	return t
}

// apply calculates with two real numbers behind contagion.
func (t table) apply(x, y scalar) (scalar, api.Errno) {
	a, b, e := together(x, y)
	if e != api.OK {
		return scalar{}, e
	}
	return t[a.kind](a, b)
}

func sums() table {
	return tableOf(func(x, y rational.Ratio) (rational.Ratio, api.Errno) { return x.Add(y), api.OK }, float.Add)
}

func differences() table {
	return tableOf(func(x, y rational.Ratio) (rational.Ratio, api.Errno) { return x.Sub(y), api.OK }, float.Sub)
}

func products() table {
	return tableOf(func(x, y rational.Ratio) (rational.Ratio, api.Errno) { return x.Mul(y), api.OK }, float.Mul)
}

func quotients() table {
	return tableOf(func(x, y rational.Ratio) (rational.Ratio, api.Errno) { return x.Div(y) }, float.Div)
}

// negated returns the opposite number.
func (s scalar) negated() scalar {
	if s.kind == exact {
		return exactScalar(s.ratio.Neg())
	}
	bits, _ := float.Neg(format(s.kind), s.bits)
	return scalar{kind: s.kind, bits: bits}
}

// sign returns the sign of the value: 0 for -0.
func (s scalar) sign() int { return s.exactly().Sign() }

// minus reports whether the number is below 0, or -0.
func (s scalar) minus() bool {
	if s.kind == exact {
		return s.ratio.Sign() < 0
	}
	_, _, sign, _ := float.Decode(format(s.kind), s.bits)
	return sign < 0
}

// chain calculates step by step; behind the first error it goes no further.
type chain struct{ e api.Errno }

func (c *chain) step(t table, x, y scalar) scalar {
	if c.e != api.OK {
		return scalar{}
	}
	z, e := t.apply(x, y)
	c.e = e
	return z
}

func (c *chain) add(x, y scalar) scalar { return c.step(sums(), x, y) }
func (c *chain) sub(x, y scalar) scalar { return c.step(differences(), x, y) }
func (c *chain) mul(x, y scalar) scalar { return c.step(products(), x, y) }
func (c *chain) div(x, y scalar) scalar { return c.step(quotients(), x, y) }

// end returns the complex number with two parts, or the first error.
func (c *chain) end(a, b scalar) (value, api.Errno) {
	if c.e != api.OK {
		return value{}, c.e
	}
	return paired(a, b)
}

// paired returns the complex number with two parts.
func paired(a, b scalar) (value, api.Errno) {
	a, b, e := together(a, b)
	if e != api.OK {
		return value{}, e
	}
	if b.kind == exact && b.ratio.Sign() == 0 {
		return realValue(a), api.OK
	}
	return value{parts: [2]scalar{a, b}, pair: true}, api.OK
}
