package number_test

import (
	"math"
	"math/big"
	"math/rand"
	"testing"

	"commonform/api"
	"commonform/number"
)

// P5.1, P5.4: the four ways of dividing.
func TestQuotient(t *testing.T) {
	for _, c := range []struct {
		way        int
		x, y, q, r string
	}{
		{number.Floor, "-3.5", "2", "-2", "0.5"}, {number.Ceiling, "-3.5", "2", "-1", "-1.5"}, {number.Truncate, "-3.5", "2", "-1", "-1.5"}, {number.Round, "-3.5", "2", "-2", "0.5"}, {number.Round, "5", "2", "2", "1"}, {number.Floor, "7/2", "1", "3", "1/2"}, {number.Floor, "4.0", "2", "2", "0.0"}, {number.Floor, "-0.0", "2", "0", "0.0"}, {number.Floor, "1", "0.1", "9", "0.09999999"}, {number.Floor, "1", "0.1d0", "9", "0.09999999999999995d0"}, {number.Floor, "1.5", "1d0", "1", "0.5d0"},
		{number.Floor, "#C(1 1)", "2", "!13", "!13"}, {9, "1", "#C(1 1)", "!13", "!13"}, {9, "1", "0", "!1", "!1"}, {-1, "1", "1", "!1", "!1"}, {math.MaxInt, "1", "1", "!1", "!1"}, {number.Round, "1", "0", "!6", "!6"}, {number.Round, "1", "-0.0", "!6", "!6"},
	} {
		q, r, e := number.Quotient(c.way, num(c.x), num(c.y))
		equal(t, "the quotient of "+c.x+" and "+c.y, shown(t, q, e), c.q)
		equal(t, "the remainder of "+c.x+" and "+c.y, shown(t, r, e), c.r)
	}
	l := rationals(21, 60)
	for i := range len(l) - 1 {
		x, y := l[i], l[i+1]
		if x.Kind == api.FormComplex || y.Kind == api.FormComplex || y.Text == "0" {
			continue
		}
		for way := range 4 {
			q, r, e := number.Quotient(way, x, y)
			if e != api.OK || q.Kind != api.FormInt {
				t.Fatalf("Quotient of %v and %v: %v", x, y, e)
			}
			equal(t, "y q + r", shown(t, must(number.Add(must(number.Mul(y, q)), r)), api.OK), shown(t, x, api.OK))
			if r, y := bigOf(r), bigOf(y); new(big.Rat).Abs(r).Cmp(new(big.Rat).Abs(y)) >= 0 {
				t.Errorf("the remainder of %v and %v is %v", x, y, r)
			}
		}
	}
	// an argument may be too great as the kind of the remainder, and the quotient may have too many digits
	q, _, e := number.Quotient(number.Floor, huge(100), num("1.0"))
	equal(t, "10^99 by 1.0", shown(t, q, e), "!15")
	q, _, e = number.Quotient(number.Floor, num("1.0"), huge(100))
	equal(t, "1.0 by 10^99", shown(t, q, e), "!15")
	q, _, e = number.Quotient(number.Floor, huge(100), num("0.0"))
	equal(t, "10^99 by 0.0", shown(t, q, e), "!6")
	q, r, e := number.Quotient(number.Floor, huge(api.MaxDigits), num("1/10"))
	equal(t, "a long quotient", shown(t, q, e), "!14")
	equal(t, "the remainder of a long quotient", shown(t, r, e), "!14")
	part := func(base int64, n int64) api.Form {
		return api.Form{Kind: api.FormRatio, Text: "1/" + new(big.Int).Exp(big.NewInt(base), big.NewInt(n), nil).String()}
	}
	q, r, e = number.Quotient(number.Floor, part(2, 49800), part(3, 31437))
	equal(t, "the quotient with a long remainder", shown(t, q, e), "!14")
	equal(t, "a long remainder", shown(t, r, e), "!14")
}

// P5.1: parts.
func TestParts(t *testing.T) {
	for _, c := range []struct {
		op      unary
		x, want string
	}{
		{number.Real, "5", "5"}, {number.Real, "2.5", "2.5"}, {number.Real, "#C(1/2 3)", "1/2"}, {number.Imaginary, "5", "0"}, {number.Imaginary, "1/2", "0"}, {number.Imaginary, "-2.5", "0.0"}, {number.Imaginary, "2d0", "0.0d0"}, {number.Imaginary, "#C(1 3)", "3"}, {number.Imaginary, "#C(1.0 3.0)", "3.0"},
		{number.Conjugate, "5", "5"}, {number.Conjugate, "-0.0", "-0.0"}, {number.Conjugate, "#C(1 2)", "#C(1 -2)"}, {number.Conjugate, "#C(1.0 0.0)", "#C(1.0 -0.0)"},
		{number.Numerator, "-6/4", "-3"}, {number.Denominator, "-6/4", "2"}, {number.Numerator, "0", "0"}, {number.Denominator, "0", "1"}, {number.Numerator, "-5", "-5"}, {number.Denominator, "-5", "1"},
	} {
		z, e := c.op(num(c.x))
		equal(t, "a part of "+c.x, shown(t, z, e), c.want)
	}
}

// R4: a result shares no memory with an argument.
func TestMemory(t *testing.T) {
	x := num("#C(1 2)")
	for _, f := range []unary{number.Real, number.Conjugate, func(x api.Form) (api.Form, api.Errno) { return number.Power(x, 1) }, number.Neg} {
		z := must(f(x))
		for i := range z.Kids {
			z.Kids[i] = num("9")
		}
	}
	equal(t, "the argument", shown(t, x, api.OK), "#C(1 2)")
}

// P5.6: kinds.
func TestKinds(t *testing.T) {
	for _, c := range []struct {
		op      unary
		x, want string
	}{
		{number.Rational, "0.33333334", "11184811/33554432"}, {number.Rationalize, "0.33333334", "1/3"}, {number.Rational, "5", "5"}, {number.Rationalize, "5/3", "5/3"}, {number.Rational, "-0.0", "0"}, {number.Rationalize, "-0.0", "0"}, {number.Rationalize, "0d0", "0"}, {number.Rationalize, "-0.1", "-1/10"}, {number.Rationalize, "16777218.0", "16777218"}, {number.Rationalize, "3.1415927", "93343/29712"}, {number.Rational, "1e7", "10000000"},
		{func(x api.Form) (api.Form, api.Errno) { return number.Float(x, api.FormDouble) }, "1/4", "0.25d0"}, {func(x api.Form) (api.Form, api.Errno) { return number.Float(x, api.FormDouble) }, "-0.0", "-0.0d0"}, {func(x api.Form) (api.Form, api.Errno) { return number.Float(x, api.FormSingle) }, "1d0", "1.0"}, {func(x api.Form) (api.Form, api.Errno) { return number.Float(x, api.FormSingle) }, "1d300", "!15"}, {func(x api.Form) (api.Form, api.Errno) { return number.Float(x, api.FormSingle) }, "#C(1/2 2)", "#C(0.5 2.0)"}, {func(x api.Form) (api.Form, api.Errno) { return number.Float(x, api.FormDouble) }, "#C(0.5 -0.0)", "#C(0.5d0 -0.0d0)"}, {func(x api.Form) (api.Form, api.Errno) { return number.Float(x, api.FormComplex) }, "1", "!1"}, {func(x api.Form) (api.Form, api.Errno) { return number.Float(x, api.FormRatio) }, "1d300", "!1"}, {func(x api.Form) (api.Form, api.Errno) { return number.Float(x, math.MinInt) }, "1", "!1"},
	} {
		z, e := c.op(num(c.x))
		equal(t, "another kind of "+c.x, shown(t, z, e), c.want)
	}
	z, e := number.Float(huge(100), api.FormSingle)
	equal(t, "10^99 as a Single", shown(t, z, e), "!15")
	z, e = number.Float(pair(num("1"), huge(100)), api.FormSingle)
	equal(t, "#C(1 10^99) as Singles", shown(t, z, e), "!15")
}

func floats() []api.Form {
	r := rand.New(rand.NewSource(22))
	var l []api.Form
	for range 400 {
		if s := math.Float32frombits(r.Uint32()); s == s && !math.IsInf(float64(s), 0) {
			l = append(l, single(s))
		}
		l = append(l, double(r.NormFloat64()), single(float32(math.Ldexp(1, r.Intn(270)-145))), double(math.Ldexp(1, r.Intn(100)-50)), single(float32(r.Intn(1000))/float32(1+r.Intn(1000))))
	}
	return append(l, single(math.MaxFloat32), single(math.SmallestNonzeroFloat32), double(math.MaxFloat64), double(math.SmallestNonzeroFloat64), single(-math.MaxFloat32), double(2.2250738585072014e-308), single(0x1p-126), single(0x1p-126-0x1p-149))
}

// P5.6: a float is what it is from Rational and Rationalize, and no simpler fraction is.
func TestRationalize(t *testing.T) {
	for _, x := range floats() {
		back := must(number.Float(must(number.Rational(x)), x.Kind))
		simple := must(number.Rationalize(x))
		again := must(number.Float(simple, x.Kind))
		zero := bigOf(x).Sign() == 0
		if !zero && (back.Text != x.Text || again.Text != x.Text) || zero && simple.Text != "0" {
			t.Errorf("%v: Rational %v, Rationalize %v", x, back, simple)
		}
		checkSimpler(t, x, bigOf(simple))
	}
}

// checkSimpler checks that the two simplest fractions beside a fraction, below and above, and those with a lesser denominator next to x are not read as x.
func checkSimpler(t *testing.T, x api.Form, simple *big.Rat) {
	t.Helper()
	d := new(big.Int).Sub(simple.Denom(), big.NewInt(1))
	for range 20 {
		if d.Sign() <= 0 {
			return
		}
		// both multiples of 1/d that lie around x
		n := new(big.Int).Quo(new(big.Int).Mul(bigOf(x).Num(), d), bigOf(x).Denom())
		for k := int64(-1); k <= 1; k++ {
			y := new(big.Rat).SetFrac(new(big.Int).Add(n, big.NewInt(k)), d)
			if z, e := number.Float(exactOf(y), x.Kind); e == api.OK && z.Text == x.Text {
				t.Errorf("%s is read as %v, and simpler than %s", y, x, simple)
			}
		}
		d.Sub(d, big.NewInt(1))
	}
}
