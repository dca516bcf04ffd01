package number_test

import (
	"math"
	"math/big"
	"math/rand"
	"testing"

	"commonform/api"
	"commonform/number"
)

// model calculates with two real numbers: fractions by the library, and floats as the machine does.
func model(op byte, x, y api.Form) string {
	kind := max(x.Kind, y.Kind)
	if kind <= api.FormRatio {
		a, b := bigOf(x), bigOf(y)
		if op == '/' && b.Sign() == 0 {
			return "!6"
		}
		switch op {
		case '+':
			a.Add(a, b)
		case '-':
			a.Sub(a, b)
		case '*':
			a.Mul(a, b)
		default:
			a.Quo(a, b)
		}
		return a.RatString()
	}
	a, b := floatOf(x, kind), floatOf(y, kind)
	if math.IsInf(a, 0) || math.IsInf(b, 0) {
		return "!15"
	}
	if op == '/' && b == 0 {
		return "!6"
	}
	var z api.Form
	result := map[byte]float64{'+': a + b, '-': a - b, '*': a * b, '/': a / b}[op]
	if kind == api.FormSingle {
		c, d := float32(a), float32(b)
		small := map[byte]float32{'+': c + d, '-': c - d, '*': c * d, '/': c / d}[op]
		z, result = single(small), float64(small)
	} else {
		z = double(result)
	}
	if math.IsInf(result, 0) {
		return "!15"
	}
	s, _ := number.Print(z, 10, false, false)
	return s
}

// floatOf returns a number as a float of a kind; an infinity beyond the greatest one.
func floatOf(x api.Form, kind int) float64 {
	if x.Kind > api.FormRatio && x.Text[0] == '8' && bigOf(x).Sign() == 0 {
		return math.Copysign(0, -1)
	}
	if kind == api.FormSingle {
		f, _ := bigOf(x).Float32()
		return float64(f)
	}
	f, _ := bigOf(x).Float64()
	return f
}

// P5.1, P5.5: arithmetic of real numbers, with contagion.
func TestReal(t *testing.T) {
	l := reals(1, 60)
	for _, x := range l {
		for _, y := range l {
			for op, f := range map[byte]binary{'+': number.Add, '-': number.Sub, '*': number.Mul, '/': number.Div} {
				z, e := f(x, y)
				equal(t, x.Text+" "+string(op)+" "+y.Text, shown(t, z, e), model(op, x, y))
				kind := max(x.Kind, y.Kind, api.FormRatio)
				if e == api.OK && max(z.Kind, api.FormRatio) != kind {
					t.Errorf("the kind of %v %c %v is %d", x, op, y, z.Kind)
				}
			}
		}
	}
}

// P5.1: the examples, complex numbers, and the order of errors.
func TestArithmeticExamples(t *testing.T) {
	for _, c := range []struct {
		op         binary
		x, y, want string
	}{
		{number.Add, "1/2", "1/2", "1"}, {number.Add, "1/2", "1.0", "1.5"}, {number.Add, "1.0", "1d0", "2.0d0"}, {number.Sub, "#C(0 1)", "2", "#C(-2 1)"}, {number.Add, "#C(1 1)", "#C(1 -1)", "2"}, {number.Sub, "#C(1 1)", "#C(0 1)", "1"}, {number.Add, "#C(1 2)", "1.5", "#C(2.5 2.0)"}, {number.Add, "#C(1.0 2.0)", "#C(1 -2)", "#C(2.0 0.0)"}, {number.Add, "#C(1.0 2.0)", "1d0", "#C(2.0d0 2.0d0)"},
		{number.Mul, "#C(1 1)", "#C(1 -1)", "2"}, {number.Mul, "#C(0 1)", "#C(0 1)", "-1"}, {number.Mul, "#C(1 2)", "1/2", "#C(1/2 1)"}, {number.Mul, "#C(1 2)", "0", "0"}, {number.Mul, "#C(1 2)", "0.0", "#C(0.0 0.0)"}, {number.Mul, "#C(1.5 2.0)", "2", "#C(3.0 4.0)"},
		{number.Div, "1", "#C(0 1)", "#C(0 -1)"}, {number.Div, "#C(1 2)", "#C(3 4)", "#C(11/25 2/25)"}, {number.Div, "#C(2 4)", "2", "#C(1 2)"}, {number.Div, "#C(3 4)", "#C(3 4)", "1"}, {number.Div, "#C(1.0 2.0)", "2", "#C(0.5 1.0)"},
		{number.Div, "1/2", "0", "!6"}, {number.Div, "1/2", "0.0", "!6"}, {number.Div, "1.0", "0", "!6"}, {number.Div, "#C(1 1)", "0", "!6"}, {number.Div, "#C(1.0 1.0)", "-0.0", "!6"}, {number.Div, "1", "#C(0.0 0.0)", "!6"},
		// the square of the divisor is rounded to 0, or beyond the greatest float
		{number.Div, "1", "#C(1e-30 0.0)", "!6"}, {number.Div, "1", "#C(1e30 0.0)", "!15"},
		{number.Mul, "3e38", "#C(2 1)", "!15"}, {number.Add, "3e38", "#C(3e38 0.0)", "!15"}, {number.Complex, "1", "2.0", "#C(1.0 2.0)"}, {number.Complex, "1.0", "0", "#C(1.0 0.0)"}, {number.Complex, "1", "0", "1"}, {number.Complex, "1", "1/2", "#C(1 1/2)"}, {number.Complex, "1.0", "1d0", "#C(1.0d0 1.0d0)"}, {number.Complex, "0.0", "0.0", "#C(0.0 0.0)"},
	} {
		z, e := c.op(num(c.x), num(c.y))
		equal(t, c.x+" and "+c.y, shown(t, z, e), c.want)
	}
	// contagion comes ahead of a division by 0
	z, e := number.Div(huge(100), num("0.0"))
	equal(t, "10^99/0.0", shown(t, z, e), "!15")
	z, e = number.Complex(huge(100), num("1.0"))
	equal(t, "the parts 10^99 and 1.0", shown(t, z, e), "!15")
	z, e = number.Add(pair(huge(100), num("1")), num("1.0"))
	equal(t, "#C(10^99 1) + 1.0", shown(t, z, e), "!15")
}

// P5.1: texts of results are limited.
func TestLargeResults(t *testing.T) {
	half := huge(api.MaxDigits/2 + 1)
	for want, call := range map[string]func() (api.Form, api.Errno){
		"1": func() (api.Form, api.Errno) { return number.Div(half, half) },
		"!14": func() (api.Form, api.Errno) {
			return number.Add(huge(api.MaxDigits), must(number.Mul(huge(api.MaxDigits), num("9"))))
		},
	} {
		z, e := call()
		equal(t, "a large calculation", shown(t, z, e), want)
	}
	z, e := number.Mul(half, half)
	equal(t, "a large product", shown(t, z, e), "!14")
	z, e = number.Mul(huge(api.MaxDigits/2), half)
	if e != api.OK || len(z.Text) != api.MaxDigits {
		t.Errorf("the largest product: %v", e)
	}
	z, e = number.Div(num("1"), huge(api.MaxDigits-1))
	equal(t, "a long ratio", shown(t, z, e), "!14")
	z, e = number.Div(num("1"), huge(api.MaxDigits-2))
	if e != api.OK || len(z.Text) != api.MaxDigits {
		t.Errorf("the longest ratio: %v", e)
	}
	z, e = number.Mul(pair(half, num("1")), pair(half, num("-1")))
	equal(t, "a large complex product", shown(t, z, e), "!14")
	more := huge(api.MaxDigits/2 + 2)
	z, e = number.Mul(pair(more, num("1")), pair(more, num("2")))
	equal(t, "a large real part", shown(t, z, e), "!14")
	z, e = number.Mul(pair(num("1"), half), half)
	equal(t, "a large imaginary part", shown(t, z, e), "!14")
}

// P5.2: the laws of a field.
func TestField(t *testing.T) {
	l := rationals(2, 80)
	for i := range len(l) - 2 {
		x, y, z := l[i], l[i+1], l[i+2]
		text := func(x api.Form) string { return shown(t, x, api.OK) }
		add := func(x, y api.Form) api.Form { return must(number.Add(x, y)) }
		mul := func(x, y api.Form) api.Form { return must(number.Mul(x, y)) }
		equal(t, "x + y", text(add(x, y)), text(add(y, x)))
		equal(t, "x y", text(mul(x, y)), text(mul(y, x)))
		equal(t, "x + y + z", text(add(add(x, y), z)), text(add(x, add(y, z))))
		equal(t, "x y z", text(mul(mul(x, y), z)), text(mul(x, mul(y, z))))
		equal(t, "x (y + z)", text(mul(x, add(y, z))), text(add(mul(x, y), mul(x, z))))
		equal(t, "x + y - y", text(must(number.Sub(add(x, y), y))), text(x))
		equal(t, "x + -x", text(add(x, must(number.Neg(x)))), "0")
		if text(y) != "0" {
			equal(t, "x y/y", text(must(number.Div(mul(x, y), y))), text(x))
		}
		a, b := parts(x)
		p, q := parts(y)
		re := new(big.Rat).Sub(new(big.Rat).Mul(bigOf(a), bigOf(p)), new(big.Rat).Mul(bigOf(b), bigOf(q)))
		im := new(big.Rat).Add(new(big.Rat).Mul(bigOf(a), bigOf(q)), new(big.Rat).Mul(bigOf(b), bigOf(p)))
		c, d := parts(mul(x, y))
		if bigOf(c).Cmp(re) != 0 || bigOf(d).Cmp(im) != 0 {
			t.Errorf("%s by %s = %s", text(x), text(y), text(mul(x, y)))
		}
	}
}

// P5.1, P5.8: powers.
func TestPower(t *testing.T) {
	for _, c := range []struct {
		x    string
		n    int
		want string
	}{
		{"3/2", -2, "4/9"}, {"0.0", 0, "1"}, {"0", 0, "1"}, {"#C(1.0 1.0)", 0, "1"}, {"2.5", 1, "2.5"}, {"#C(0 1)", 2, "-1"}, {"#C(0 1)", -1, "#C(0 -1)"}, {"#C(1 1)", 4, "-4"}, {"1.5", 3, "3.375"}, {"2", 10, "1024"}, {"-2", 3, "-8"}, {"2d0", -2, "0.25d0"},
		{"0", -1, "!6"}, {"0.0", -3, "!6"}, {"#C(0.0 0.0)", -1, "!6"}, {"1e-30", -2, "!6"}, {"1e30", 2, "!15"}, {"1e30", -2, "!15"}, {"2", 5000, "!1"}, {"2", -4097, "!1"}, {"0", 4097, "!1"}, {"1", 4096, "1"}, {"-1", -4096, "1"}, {"#C(1 2)", math.MinInt, "!1"}, {"#C(1 2)", math.MaxInt, "!1"},
	} {
		z, e := number.Power(num(c.x), c.n)
		equal(t, c.x+" to a power", shown(t, z, e), c.want)
	}
	for i, x := range rationals(3, 30) {
		a, b := i%5, i%7
		p, q := must(number.Power(x, a)), must(number.Power(x, b))
		both := must(number.Power(x, a+b))
		equal(t, "a product of powers", shown(t, must(number.Mul(p, q)), api.OK), shown(t, both, api.OK))
		if shown(t, x, api.OK) != "0" {
			below := must(number.Power(x, -a))
			equal(t, "powers with opposite exponents", shown(t, must(number.Mul(p, below)), api.OK), "1")
		}
	}
}

func TestPowerLimits(t *testing.T) {
	power := func(n, by int) api.Form {
		x := new(big.Int).Lsh(big.NewInt(1), uint(n))
		return must(number.Mul(api.Form{Kind: api.FormInt, Text: x.String()}, api.Form{Kind: api.FormInt, Text: big.NewInt(int64(by)).String()}))
	}
	for _, c := range []struct {
		x    api.Form
		n    int
		want api.Errno
	}{
		{power(16, 1), 4096, api.ErrLarge}, {power(15, 1), 4096, api.OK}, {power(21845, -1), 3, api.OK}, {power(21846, 1), 3, api.ErrLarge}, {power(32767, 1), 2, api.OK}, {power(32768, 1), 2, api.ErrLarge},
		// the square is too great, although the quotient would not be
		{power(32768, 1), -2, api.ErrLarge}, {huge(api.MaxDigits), 1, api.OK}, {huge(api.MaxDigits), 2, api.ErrLarge}, {huge(api.MaxDigits - 2), -1, api.OK}, {huge(api.MaxDigits), -1, api.ErrLarge},
		{must(number.Div(num("1"), power(32768, 1))), 2, api.ErrLarge}, {pair(num("1"), power(32769, 1)), 2, api.ErrLarge}, {pair(num("0"), power(32768, 1)), 2, api.OK}, {pair(num("1"), power(32767, 1)), 2, api.OK}, {pair(power(32768, 1), power(32768, 1)), 2, api.ErrLarge},
		{must(number.Div(num("1"), power(16000, 1))), 4, api.OK},
	} {
		z, e := number.Power(c.x, c.n)
		if e != c.want || e != api.OK && z.Kind != 0 {
			t.Errorf("power %d of %.20s..: %v; want %v", c.n, c.x.Text, e, c.want)
		}
	}
}

// P5.1, P5.8: roots.
func TestRoot(t *testing.T) {
	for x, want := range map[string]string{
		"9/4": "3/2", "0": "0", "16": "4", "2": "1.4142135", "-4": "#C(0 2)", "-2": "#C(0.0 1.4142135)", "-9/4": "#C(0 3/2)", "4.0": "2.0", "-4.0": "#C(0.0 2.0)", "-2d0": "#C(0.0d0 1.4142135623730951d0)", "2d0": "1.4142135623730951d0", "-0.0": "-0.0", "0.0": "0.0", "#C(0 1)": "!13", "1/2": "0.70710677", "1e-45": "3.743392e-23",
	} {
		z, e := number.Root(num(x))
		equal(t, "Root of "+x, shown(t, z, e), want)
	}
	z, e := number.Root(huge(100))
	equal(t, "Root of 10^99", shown(t, z, e), "!15")
	z, e = number.Root(huge(101))
	if e != api.OK || len(z.Text) != 51 {
		t.Errorf("Root of 10^100: %v, %v", z, e)
	}
	z, e = number.Root(must(number.Neg(huge(100))))
	equal(t, "Root of -10^99", shown(t, z, e), "!15")
	z, e = number.Root(must(number.Div(num("1"), huge(100))))
	equal(t, "Root of 10^-99", shown(t, z, e), "0.0")
	for _, x := range rationals(4, 60) {
		if x.Kind == api.FormComplex {
			continue
		}
		root := must(number.Root(must(number.Mul(x, x))))
		equal(t, "Root of a square", shown(t, root, api.OK), shown(t, must(number.Abs(x)), api.OK))
	}
}

// P5.1: the root of a rational number is rounded once.
func TestRootRounding(t *testing.T) {
	r := rand.New(rand.NewSource(5))
	for range 400 {
		x := new(big.Rat).Abs(randomRat(r))
		if r.Intn(2) == 0 {
			x.Quo(x, new(big.Rat).SetInt(new(big.Int).Lsh(big.NewInt(1), uint(r.Intn(300)))))
		}
		z, e := number.Root(exactOf(x))
		if e != api.OK || z.Kind != api.FormSingle {
			continue
		}
		checkRoot(t, x, z)
	}
	// roots that lie just beside the middle of two floats
	for n := int64(1<<24 + 1); n < 1<<24+400; n += 2 {
		square := new(big.Rat).SetInt(new(big.Int).Mul(big.NewInt(n), big.NewInt(n)))
		for _, d := range []*big.Rat{big.NewRat(1, 1<<50), big.NewRat(-1, 1<<50)} {
			x := new(big.Rat).Add(square, d)
			checkRoot(t, x, must(number.Root(exactOf(x))))
		}
	}
}

// checkRoot checks that no neighbour of z is nearer to the root of x: the middle between both is compared by its square.
func checkRoot(t *testing.T, x *big.Rat, z api.Form) {
	t.Helper()
	v, _ := bigOf(z).Float32()
	for _, to := range []float32{float32(math.Inf(1)), 0} {
		next := math.Nextafter32(v, to)
		if v == 0 && to == 0 {
			continue
		}
		middle := new(big.Rat).Add(bigOf(z), new(big.Rat).SetFloat64(float64(next)))
		middle.Mul(middle, big.NewRat(1, 2))
		order := x.Cmp(middle.Mul(middle, middle))
		if to == 0 && order < 0 || to != 0 && order > 0 {
			t.Errorf("Root of %s = %v", x, v)
		}
	}
}

// P5.1: signs.
func TestSigns(t *testing.T) {
	for _, c := range []struct {
		op      unary
		x, want string
	}{
		{number.Neg, "5", "-5"}, {number.Neg, "0", "0"}, {number.Neg, "0.0", "-0.0"}, {number.Neg, "-1/2", "1/2"}, {number.Neg, "#C(0 1)", "#C(0 -1)"}, {number.Neg, "#C(0.0 1.0)", "#C(-0.0 -1.0)"},
		{number.Abs, "-0.0", "0.0"}, {number.Abs, "0.0", "0.0"}, {number.Abs, "-3/4", "3/4"}, {number.Abs, "-5", "5"}, {number.Abs, "-2.5d0", "2.5d0"}, {number.Abs, "2.5", "2.5"}, {number.Abs, "0", "0"},
		{number.Signum, "-3/4", "-1"}, {number.Signum, "7", "1"}, {number.Signum, "0", "0"}, {number.Signum, "-2.5", "-1.0"}, {number.Signum, "1d-300", "1.0d0"}, {number.Signum, "-0.0", "-0.0"}, {number.Signum, "0d0", "0.0d0"},
	} {
		z, e := c.op(num(c.x))
		equal(t, c.x, shown(t, z, e), c.want)
	}
}
