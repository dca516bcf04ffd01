package number

import (
	"iter"
	"math/bits"

	"commonform/api"
	"commonform/float"
	"commonform/integer"
	"commonform/rational"
)

// calculate returns the result of an operation of two numbers.
func calculate(x, y api.Form, operate func(v, w value) (value, api.Errno)) (api.Form, api.Errno) {
	v, w, e := parseBoth(x, y)
	if e != api.OK {
		return api.Form{}, e
	}
	return finish(operate(v, w))
}

// realResult returns the result of a table for two real numbers.
func realResult(t table, v, w value) (value, api.Errno) {
	s, e := t.apply(v.parts[0], w.parts[0])
	return realValue(s), e
}

// Add returns x + y.
func Add(x, y api.Form) (api.Form, api.Errno) {
	return calculate(x, y, func(v, w value) (value, api.Errno) { return partByPart(sums(), v, w) })
}

// Sub returns x - y.
func Sub(x, y api.Form) (api.Form, api.Errno) {
	return calculate(x, y, func(v, w value) (value, api.Errno) { return partByPart(differences(), v, w) })
}

func partByPart(t table, v, w value) (value, api.Errno) {
	if !v.pair && !w.pair {
		return realResult(t, v, w)
	}
	c := &chain{}
	re := c.step(t, v.parts[0], w.parts[0])
	im := c.step(t, v.parts[1], w.parts[1])
	return c.end(re, im)
}

// Mul returns the product of x and y.
func Mul(x, y api.Form) (api.Form, api.Errno) { return calculate(x, y, multiply) }

func multiply(v, w value) (value, api.Errno) {
	if !v.pair && !w.pair {
		return realResult(products(), v, w)
	}
	a, b, p, q := v.parts[0], v.parts[1], w.parts[0], w.parts[1]
	c := &chain{}
	first := c.mul(a, p)
	second := c.mul(b, q)
	re := c.sub(first, second)
	third := c.mul(a, q)
	fourth := c.mul(b, p)
	im := c.add(third, fourth)
	return c.end(re, im)
}

// Div returns x/y.
func Div(x, y api.Form) (api.Form, api.Errno) { return calculate(x, y, divide) }

func divide(v, w value) (value, api.Errno) {
	if !v.pair && !w.pair {
		return realResult(quotients(), v, w)
	}
	a, b, p, q := v.parts[0], v.parts[1], w.parts[0], w.parts[1]
	c := &chain{}
	first := c.mul(p, p)
	second := c.mul(q, q)
	n := c.add(first, second)
	first = c.mul(a, p)
	second = c.mul(b, q)
	sum := c.add(first, second)
	re := c.div(sum, n)
	first = c.mul(b, p)
	second = c.mul(a, q)
	difference := c.sub(first, second)
	im := c.div(difference, n)
	return c.end(re, im)
}

// Neg returns -x.
func Neg(x api.Form) (api.Form, api.Errno) {
	v, e := parse(x)
	if e != api.OK {
		return api.Form{}, e
	}
	return v.negated().form()
}

func (v value) negated() value {
	if v.pair {
		return value{parts: [2]scalar{v.parts[0].negated(), v.parts[1].negated()}, pair: true}
	}
	return realValue(v.parts[0].negated())
}

// Power returns x to the power of n.
func Power(x api.Form, n int) (api.Form, api.Errno) {
	v, e := parse(x)
	switch {
	case e != api.OK:
		return api.Form{}, e
	case n < -4096 || n > 4096:
		return api.Form{}, api.ErrArg
	case n >= 0:
		return finish(power(v, n))
	}
	below, e := power(v, -n)
	if e != api.OK {
		return api.Form{}, e
	}
	return finish(divide(realValue(integerScalar(1)), below))
}

func power(v value, n int) (value, api.Errno) {
	if n == 0 {
		return realValue(integerScalar(1)), api.OK
	}
	result, e := v, api.OK
	for digit := range laterDigits(n) {
		result, e = limited(multiply(result, result))
		if e == api.OK && digit == 1 {
			result, e = limited(multiply(result, v))
		}
		if e != api.OK {
			return value{}, e
		}
	}
	return result, api.OK
}

// limited returns ErrLarge for a number with an exact part that has too many binary digits.
func limited(v value, e api.Errno) (value, api.Errno) {
	if e != api.OK {
		return value{}, e
	}
	for _, s := range v.parts {
		if s.kind == exact && max(s.ratio.Numerator().Length(), s.ratio.Denominator().Length()) > api.MaxBits {
			return value{}, api.ErrLarge
		}
	}
	return v, api.OK
}

// laterDigits yields the binary digits of n behind the first one.
func laterDigits(n int) iter.Seq[int] {
	return func(yield func(int) bool) {
		for i := bits.Len(uint(n)) - 2; i >= 0; i-- {
			if !yield(n >> i & 1) {
				return
			}
		}
	}
}

// Root returns the square root of x.
func Root(x api.Form) (api.Form, api.Errno) {
	s, e := parseReal(x)
	if e != api.OK {
		return api.Form{}, e
	}
	if s.sign() >= 0 {
		root, e := s.root()
		return finish(realValue(root), e)
	}
	root, e := s.negated().root()
	if e != api.OK {
		return api.Form{}, e
	}
	return finish(paired(scalar{kind: root.kind}, root))
}

// root returns the square root of a number that is not below 0.
func (s scalar) root() (scalar, api.Errno) {
	if s.kind != exact {
		root, e := float.Root(format(s.kind), s.bits)
		return scalar{kind: s.kind, bits: root}, e
	}
	root, e := s.ratio.Root()
	if e == api.OK {
		return exactScalar(root), api.OK
	}
	nearest, e := float.Nearest(float.Single, closeRoot(s.ratio))
	return scalar{kind: single, bits: nearest}, e
}

// closeRoot returns a fraction that is rounded to the same float as the square root of x, which is no fraction.
// It lies in the middle of two neighbouring multiples of a power of two, between which the root lies; each half of two floats is such a multiple, too, since there are at least 64 digits.
func closeRoot(x rational.Ratio) rational.Ratio {
	n, d := x.Numerator(), x.Denominator()
	digits := max(0, 128-n.Length()+d.Length()) / 2
	unit, _ := integer.New(1).Shift(digits + 1)
	square, _, _ := n.Mul(unit).Mul(unit).Divide(d)
	root, _ := square.Root()
	middle, _ := rational.New(root.Add(root).Add(integer.New(1)), unit.Add(unit))
	return middle
}

// Abs returns the absolute value of a real x.
func Abs(x api.Form) (api.Form, api.Errno) {
	s, e := parseReal(x)
	if e != api.OK {
		return api.Form{}, e
	}
	if s.minus() {
		s = s.negated()
	}
	return s.form()
}

// Signum returns the sign of a real x as a number of its kind.
func Signum(x api.Form) (api.Form, api.Errno) {
	s, e := parseReal(x)
	if e != api.OK {
		return api.Form{}, e
	}
	sign := s.sign()
	if sign == 0 {
		return s.form()
	}
	return finish(asValue(integerScalar(int64(sign)), s.kind))
}

// asValue returns a real number as one of a kind.
func asValue(s scalar, kind int) (value, api.Errno) {
	t, e := s.as(kind)
	return realValue(t), e
}
