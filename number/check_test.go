package number_test

import (
	"math"
	"strings"
	"testing"

	"commonform/api"
	"commonform/number"
)

func leaf(kind int, text string) api.Form { return api.Form{Kind: kind, Text: text} }

// P5.1: which forms are numbers.
func TestCheck(t *testing.T) {
	long := strings.Repeat("1", api.MaxDigits+1)
	one := leaf(api.FormInt, "1")
	for _, c := range []struct {
		x    api.Form
		want api.Errno
	}{
		{one, api.OK}, {leaf(api.FormInt, "0"), api.OK}, {leaf(api.FormInt, "-12"), api.OK}, {leaf(api.FormInt, long[1:]), api.OK}, {leaf(api.FormRatio, "-1/2"), api.OK}, {leaf(api.FormSingle, "80000000"), api.OK}, {leaf(api.FormSingle, "7f7fffff"), api.OK}, {leaf(api.FormDouble, "3ff0000000000000"), api.OK}, {leaf(api.FormRatio, long[3:]+"/2"), api.OK},
		{pair(one, one), api.OK}, {pair(one, leaf(api.FormRatio, "1/2")), api.OK}, {pair(leaf(api.FormRatio, "1/2"), one), api.OK}, {pair(single(0), single(0)), api.OK}, {pair(double(1), double(2)), api.OK}, {pair(leaf(api.FormInt, "0"), one), api.OK}, {pair(leaf(api.FormInt, long[1:]), leaf(api.FormInt, long[1:])), api.OK},
		{api.Form{}, api.ErrType}, {leaf(-1, "1"), api.ErrType}, {leaf(api.FormSymbol, "1"), api.ErrType}, {leaf(api.FormChar, "1"), api.ErrType}, {leaf(api.FormString, long), api.ErrType}, {leaf(api.FormLabel, "1"), api.ErrType}, {leaf(math.MaxInt, "1"), api.ErrType}, {leaf(math.MinInt, "1"), api.ErrType},
		{leaf(api.FormInt, long), api.ErrLarge}, {leaf(api.FormRatio, long), api.ErrLarge}, {leaf(api.FormSingle, long), api.ErrLarge}, {api.Form{Kind: api.FormInt, Text: long, Home: "X"}, api.ErrLarge}, {api.Form{Kind: api.FormComplex, Text: long}, api.ErrLarge}, {pair(leaf(api.FormInt, "x"), leaf(api.FormInt, long)), api.ErrLarge}, {pair(leaf(api.FormInt, "1"), leaf(api.FormString, long)), api.ErrLarge},
		{leaf(api.FormInt, ""), api.ErrForm}, {leaf(api.FormInt, "-"), api.ErrForm}, {leaf(api.FormInt, "01"), api.ErrForm}, {leaf(api.FormInt, "-0"), api.ErrForm}, {leaf(api.FormInt, "+1"), api.ErrForm}, {leaf(api.FormInt, "-+1"), api.ErrForm}, {leaf(api.FormInt, "--1"), api.ErrForm}, {leaf(api.FormInt, "1.0"), api.ErrForm}, {leaf(api.FormInt, "1/2"), api.ErrForm}, {leaf(api.FormInt, "a"), api.ErrForm}, {leaf(api.FormInt, "1 "), api.ErrForm}, {leaf(api.FormInt, "-01"), api.ErrForm},
		{leaf(api.FormRatio, "1"), api.ErrForm}, {leaf(api.FormRatio, "2/4"), api.ErrForm}, {leaf(api.FormRatio, "4/2"), api.ErrForm}, {leaf(api.FormRatio, "1/1"), api.ErrForm}, {leaf(api.FormRatio, "0/2"), api.ErrForm}, {leaf(api.FormRatio, "1/0"), api.ErrForm}, {leaf(api.FormRatio, "1/-2"), api.ErrForm}, {leaf(api.FormRatio, "1/+2"), api.ErrForm}, {leaf(api.FormRatio, "+1/2"), api.ErrForm}, {leaf(api.FormRatio, "1/02"), api.ErrForm}, {leaf(api.FormRatio, "01/2"), api.ErrForm}, {leaf(api.FormRatio, "1/2/3"), api.ErrForm}, {leaf(api.FormRatio, "/2"), api.ErrForm}, {leaf(api.FormRatio, "1/"), api.ErrForm}, {leaf(api.FormRatio, ""), api.ErrForm}, {leaf(api.FormRatio, "-0/3"), api.ErrForm},
		{leaf(api.FormRatio, strings.Repeat("2", 40)+"/"+strings.Repeat("4", 40)), api.ErrForm},
		{leaf(api.FormSingle, ""), api.ErrForm}, {leaf(api.FormSingle, "7f800000"), api.ErrForm}, {leaf(api.FormSingle, "ffc00000"), api.ErrForm}, {leaf(api.FormSingle, "3F800000"), api.ErrForm}, {leaf(api.FormSingle, "3f80000"), api.ErrForm}, {leaf(api.FormSingle, "3f80000g"), api.ErrForm}, {leaf(api.FormSingle, "+f800000"), api.ErrForm}, {leaf(api.FormSingle, "0x000000"), api.ErrForm}, {leaf(api.FormSingle, "3f8000000"), api.ErrForm}, {leaf(api.FormDouble, "3f800000"), api.ErrForm}, {leaf(api.FormDouble, "7ff0000000000000"), api.ErrForm}, {leaf(api.FormDouble, "3FF0000000000000"), api.ErrForm}, {leaf(api.FormDouble, "3f_0000000000000"), api.ErrForm},
		{api.Form{Kind: api.FormInt, Text: "1", Home: "X"}, api.ErrForm}, {api.Form{Kind: api.FormInt, Text: "1", Kids: []api.Form{one}}, api.ErrForm}, {api.Form{Kind: api.FormSingle, Text: "00000000", Kids: []api.Form{{}}}, api.ErrForm},
		{api.Form{Kind: api.FormComplex}, api.ErrForm}, {api.Form{Kind: api.FormComplex, Kids: []api.Form{one}}, api.ErrForm}, {api.Form{Kind: api.FormComplex, Kids: []api.Form{one, one, one}}, api.ErrForm}, {api.Form{Kind: api.FormComplex, Text: "1", Kids: []api.Form{one, one}}, api.ErrForm}, {api.Form{Kind: api.FormComplex, Home: "X", Kids: []api.Form{one, one}}, api.ErrForm},
		{pair(one, leaf(api.FormInt, "0")), api.ErrForm}, {pair(one, single(1)), api.ErrForm}, {pair(single(1), double(1)), api.ErrForm}, {pair(single(1), one), api.ErrForm}, {pair(one, leaf(api.FormString, "1")), api.ErrForm}, {pair(leaf(api.FormString, "1"), one), api.ErrForm}, {pair(pair(one, one), one), api.ErrForm}, {pair(one, pair(one, one)), api.ErrForm}, {pair(one, leaf(api.FormInt, "01")), api.ErrForm}, {pair(leaf(api.FormInt, "01"), one), api.ErrForm}, {pair(one, api.Form{Kind: api.FormInt, Text: "1", Home: "X"}), api.ErrForm},
	} {
		if e := number.Check(c.x); e != c.want {
			t.Errorf("Check of %.60v = %v; want %v", c.x, e, c.want)
		}
	}
}

type unary = func(x api.Form) (api.Form, api.Errno)

type binary = func(x, y api.Form) (api.Form, api.Errno)

// code returns the code of an error, and -1 if there is a result with it.
func code(x api.Form, e api.Errno) api.Errno {
	if e != api.OK && (x.Kind != 0 || x.Text != "" || x.Home != "" || len(x.Kids) > 0) {
		return -1
	}
	return e
}

// result returns a form that tells whether there is a result.
func result(is bool) api.Form {
	if is {
		return num("1")
	}
	return api.Form{}
}

// unaries returns the functions of one number, with other arguments that are wrong, too.
func unaries() map[string]unary {
	return map[string]unary{
		"Neg": number.Neg, "Root": number.Root, "Abs": number.Abs, "Signum": number.Signum, "Real": number.Real, "Imaginary": number.Imaginary, "Conjugate": number.Conjugate, "Numerator": number.Numerator, "Denominator": number.Denominator, "Rational": number.Rational, "Rationalize": number.Rationalize,
		"Power":    func(x api.Form) (api.Form, api.Errno) { return number.Power(x, 5000) },
		"Float":    func(x api.Form) (api.Form, api.Errno) { return number.Float(x, api.FormInt) },
		"Shift":    func(x api.Form) (api.Form, api.Errno) { return number.Shift(x, math.MaxInt) },
		"Greatest": func(x api.Form) (api.Form, api.Errno) { return number.Greatest([]api.Form{num("1"), x}) },
		"Gcd":      func(x api.Form) (api.Form, api.Errno) { return number.Gcd([]api.Form{num("1"), x}) },
		"Lcm":      func(x api.Form) (api.Form, api.Errno) { return number.Lcm([]api.Form{num("0"), x}) },
		"Print": func(x api.Form) (api.Form, api.Errno) {
			s, e := number.Print(x, 0, false, false)
			return leaf(0, s), e
		},
	}
}

func binaries() map[string]binary {
	return map[string]binary{
		"Add": number.Add, "Sub": number.Sub, "Mul": number.Mul, "Div": number.Div, "Complex": number.Complex,
		"Equals": func(x, y api.Form) (api.Form, api.Errno) {
			is, e := number.Equals(x, y)
			return result(is), e
		},
		"Eql": func(x, y api.Form) (api.Form, api.Errno) {
			is, e := number.Eql(x, y)
			return result(is), e
		},
		"Cmp": func(x, y api.Form) (api.Form, api.Errno) {
			n, e := number.Cmp(x, y)
			return result(n != 0), e
		},
		"Quotient": func(x, y api.Form) (api.Form, api.Errno) {
			q, r, e := number.Quotient(7, x, y)
			return result(q.Kind != 0 || r.Kind != 0), e
		},
		"Boole": func(x, y api.Form) (api.Form, api.Errno) { return number.Boole(99, x, y) },
	}
}

// P5.1: the errors of numbers come first, in the order of the arguments.
func TestErrorsOfNumbers(t *testing.T) {
	wrong := map[api.Errno]api.Form{api.ErrType: leaf(api.FormString, "1"), api.ErrLarge: leaf(api.FormInt, strings.Repeat("1", api.MaxDigits+1)), api.ErrForm: leaf(api.FormInt, "01")}
	for want, x := range wrong {
		for name, f := range unaries() {
			if e := code(f(x)); e != want {
				t.Errorf("%s of a number with the error %v: %v", name, want, e)
			}
		}
		for name, f := range binaries() {
			if e := code(f(x, leaf(api.FormRatio, "?"))); e != want {
				t.Errorf("%s of a first number with the error %v: %v", name, want, e)
			}
			if e := code(f(num("#C(1 1)"), x)); e != want {
				t.Errorf("%s of a second number with the error %v: %v", name, want, e)
			}
		}
	}
}

// P5.1: what is asked of real numbers, of rational ones and of integers.
func TestErrorsOfKinds(t *testing.T) {
	c := num("#C(1 1)")
	for _, name := range []string{"Root", "Abs", "Signum", "Numerator", "Denominator", "Rational", "Rationalize", "Shift", "Greatest", "Gcd", "Lcm"} {
		if e := code(unaries()[name](c)); e != api.ErrType {
			t.Errorf("%s of a complex number: %v", name, e)
		}
	}
	for _, name := range []string{"Cmp", "Quotient", "Complex", "Boole"} {
		f := binaries()[name]
		if a, b := code(f(c, num("1"))), code(f(num("1"), c)); a != api.ErrType || b != api.ErrType {
			t.Errorf("%s of a complex number: %v, %v", name, a, b)
		}
	}
	for _, x := range []api.Form{single(1), double(1)} {
		if a, b := code(number.Numerator(x)), code(number.Denominator(x)); a != api.ErrType || b != api.ErrType {
			t.Errorf("the parts of a float as a fraction: %v, %v", a, b)
		}
	}
	for _, x := range []api.Form{single(1), double(1), num("1/2")} {
		codes := []api.Errno{code(number.Gcd([]api.Form{x})), code(number.Lcm([]api.Form{x, num("0")})), code(number.Boole(99, x, num("1"))), code(number.Boole(99, num("1"), x)), code(number.Shift(x, math.MaxInt))}
		for i, e := range codes {
			if e != api.ErrType {
				t.Errorf("call %d with %v: %v", i, x, e)
			}
		}
	}
	// element by element
	if e := code(number.Gcd([]api.Form{single(1), leaf(api.FormInt, "01")})); e != api.ErrType {
		t.Errorf("Gcd of a float and what is no number: %v", e)
	}
	if e := code(number.Greatest([]api.Form{c, leaf(api.FormInt, "01")})); e != api.ErrType {
		t.Errorf("Greatest of a complex number and what is no number: %v", e)
	}
}
