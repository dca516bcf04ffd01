package rational_test

import (
	"math"
	"math/big"
	"math/rand"
	"strings"
	"testing"

	"commonform/api"
	"commonform/integer"
	"commonform/rational"
)

// ratio returns the fraction of a decimal text.
func ratio(s string) rational.Ratio {
	x, e := rational.Parse(s, 10)
	if e != api.OK {
		panic(s)
	}
	return x
}

func text(x rational.Ratio) string {
	s, _ := x.Text(10)
	return s
}

func digits(x integer.Int) string {
	s, _ := x.Text(10)
	return s
}

// bigOf returns the same fraction of the library.
func bigOf(x rational.Ratio) *big.Rat {
	r, ok := new(big.Rat).SetString(digits(x.Numerator()) + "/" + digits(x.Denominator()))
	if !ok {
		panic(text(x))
	}
	return r
}

func same(t *testing.T, what string, got rational.Ratio, want *big.Rat) {
	t.Helper()
	top, bottom := digits(got.Numerator()), digits(got.Denominator())
	if top != want.Num().String() || bottom != want.Denom().String() || text(got) != want.RatString() || got.Whole() != want.IsInt() {
		t.Errorf("%s = %s/%s, %s; want %s", what, top, bottom, text(got), want)
	}
}

// failed checks that a call ended with an error and the zero value.
func failed(t *testing.T, what string, x rational.Ratio, got, want api.Errno) {
	t.Helper()
	if got != want || x.Sign() != 0 {
		t.Errorf("%s = %s, %v; want 0, %v", what, text(x), got, want)
	}
}

func random(r *rand.Rand) rational.Ratio {
	n, d := r.Int63n(1<<r.Intn(62)+1), 1+r.Int63n(1<<r.Intn(62)+1)
	if r.Intn(2) == 0 {
		n = -n
	}
	x, _ := rational.New(integer.New(n), integer.New(d))
	if r.Intn(4) == 0 {
		x = x.Mul(x).Mul(x)
	}
	return x
}

func samples(seed int64, n int) []rational.Ratio {
	l := []rational.Ratio{{}, ratio("1"), ratio("-1"), ratio("1/2"), ratio("-1/2"), ratio("7/3"), ratio("-7/3"), ratio("18446744073709551616/3"), ratio("-5/18446744073709551617")}
	r := rand.New(rand.NewSource(seed))
	for range n {
		l = append(l, random(r))
	}
	return l
}

// P3.1: fractions are in lowest terms, with the sign in front.
func TestNew(t *testing.T) {
	for _, c := range []struct {
		n, d int64
		want string
	}{{6, -4, "-3/2"}, {-6, -4, "3/2"}, {0, -7, "0"}, {0, 7, "0"}, {8, 4, "2"}, {8, -4, "-2"}, {math.MinInt64, -1, "9223372036854775808"}, {1, math.MinInt64, "-1/9223372036854775808"}} {
		x, e := rational.New(integer.New(c.n), integer.New(c.d))
		same(t, "New", x, big.NewRat(c.n, c.d))
		if text(x) != c.want || e != api.OK {
			t.Errorf("%d/%d = %s, %v", c.n, c.d, text(x), e)
		}
	}
	x, e := rational.New(integer.New(1), integer.Int{})
	failed(t, "1/0", x, e, api.ErrZero)
	x, e = rational.New(integer.Int{}, integer.Int{})
	failed(t, "0/0", x, e, api.ErrZero)
	var zero rational.Ratio
	same(t, "the zero value", zero, new(big.Rat))
	same(t, "Of", rational.Of(integer.New(-5)), big.NewRat(-5, 1))
	same(t, "Of the zero value", rational.Of(integer.Int{}), new(big.Rat))
}

// P3.1: arithmetic, against the library.
func TestArithmetic(t *testing.T) {
	l := samples(1, 30)
	for _, x := range l {
		a := bigOf(x)
		same(t, "Neg", x.Neg(), new(big.Rat).Neg(a))
		same(t, "Abs", x.Abs(), new(big.Rat).Abs(a))
		if x.Sign() != a.Sign() {
			t.Errorf("Sign of %s = %d", a, x.Sign())
		}
		for _, y := range l {
			b := bigOf(y)
			same(t, "Add", x.Add(y), new(big.Rat).Add(a, b))
			same(t, "Sub", x.Sub(y), new(big.Rat).Sub(a, b))
			same(t, "Mul", x.Mul(y), new(big.Rat).Mul(a, b))
			if x.Cmp(y) != a.Cmp(b) {
				t.Errorf("Cmp of %s and %s = %d", a, b, x.Cmp(y))
			}
			q, e := x.Div(y)
			if y.Sign() == 0 {
				failed(t, "Div by 0", q, e, api.ErrZero)
				continue
			}
			same(t, "Div", q, new(big.Rat).Quo(a, b))
			if e != api.OK {
				t.Errorf("%s by %s: %v", a, b, e)
			}
		}
	}
}

// P3.2: the laws of a field and of order.
func TestField(t *testing.T) {
	l := samples(2, 90)
	equal := func(what string, a, b rational.Ratio) {
		t.Helper()
		if a.Cmp(b) != 0 || text(a) != text(b) || a.Numerator().Cmp(b.Numerator()) != 0 || a.Denominator().Cmp(b.Denominator()) != 0 {
			t.Errorf("%s: %s, %s", what, text(a), text(b))
		}
	}
	for i := range len(l) - 2 {
		x, y, z := l[i], l[i+1], l[i+2]
		equal("x + y", x.Add(y), y.Add(x))
		equal("x y", x.Mul(y), y.Mul(x))
		equal("x + y + z", x.Add(y).Add(z), x.Add(y.Add(z)))
		equal("x y z", x.Mul(y).Mul(z), x.Mul(y.Mul(z)))
		equal("x (y + z)", x.Mul(y.Add(z)), x.Mul(y).Add(x.Mul(z)))
		equal("x + y - y", x.Add(y).Sub(y), x)
		if y.Sign() != 0 {
			q, _ := x.Mul(y).Div(y)
			equal("x y/y", q, x)
		}
		if x.Cmp(y) != x.Add(z).Cmp(y.Add(z)) || z.Sign() > 0 && x.Cmp(y) != x.Mul(z).Cmp(y.Mul(z)) {
			t.Errorf("order of %s and %s with %s", text(x), text(y), text(z))
		}
	}
}

// P3.3: the four ways of rounding.
func TestQuotients(t *testing.T) {
	for _, c := range []struct {
		x, y string
		way  int
		q, r string
	}{
		{"-7/2", "2", rational.Floor, "-2", "1/2"}, {"-7/2", "2", rational.Ceiling, "-1", "-3/2"}, {"-7/2", "2", rational.Truncate, "-1", "-3/2"}, {"-7/2", "2", rational.Round, "-2", "1/2"},
		{"7/2", "2", rational.Truncate, "1", "3/2"}, {"5", "2", rational.Round, "2", "1"}, {"7", "2", rational.Round, "4", "-1"}, {"-5", "2", rational.Round, "-2", "-1"}, {"-7", "2", rational.Round, "-4", "1"}, {"1", "2", rational.Round, "0", "1"}, {"-1", "2", rational.Round, "0", "-1"},
		{"7", "-2", rational.Floor, "-4", "-1"}, {"7", "-2", rational.Ceiling, "-3", "1"}, {"6", "-2", rational.Floor, "-3", "0"}, {"6", "-2", rational.Ceiling, "-3", "0"}, {"0", "5/3", rational.Ceiling, "0", "0"},
	} {
		q, r, e := ratio(c.x).Quotient(c.way, ratio(c.y))
		if digits(q) != c.q || text(r) != c.r || e != api.OK {
			t.Errorf("%s by %s, way %d: %s, %s, %v", c.x, c.y, c.way, digits(q), text(r), e)
		}
	}
	l := samples(3, 40)
	for _, x := range l {
		for _, y := range l {
			if y.Sign() != 0 {
				checkQuotients(t, x, y)
			}
		}
	}
	for _, way := range []int{-1, 4, math.MinInt, math.MaxInt} {
		q, r, e := ratio("1").Quotient(way, rational.Ratio{})
		failed(t, "a way that is none", r.Add(rational.Of(q)), e, api.ErrArg)
	}
	for way := range 4 {
		q, r, e := ratio("1").Quotient(way, rational.Ratio{})
		failed(t, "a quotient by 0", r.Add(rational.Of(q)), e, api.ErrZero)
	}
}

func checkQuotients(t *testing.T, x, y rational.Ratio) {
	t.Helper()
	for way := range 4 {
		q, r, e := x.Quotient(way, y)
		ok := e == api.OK && y.Mul(rational.Of(q)).Add(r).Cmp(x) == 0 && r.Abs().Cmp(y.Abs()) < 0
		switch way {
		case rational.Floor:
			ok = ok && r.Sign()*y.Sign() >= 0
		case rational.Ceiling:
			ok = ok && r.Sign()*y.Sign() <= 0
			floor, _, _ := x.Neg().Quotient(rational.Floor, y)
			ok = ok && floor.Neg().Cmp(q) == 0
		case rational.Truncate:
			ok = ok && r.Sign()*x.Sign() >= 0
		case rational.Round:
			half := r.Abs().Add(r.Abs()).Cmp(y.Abs())
			ok = ok && half <= 0 && (half < 0 || !q.Odd())
		}
		if !ok {
			t.Errorf("%s by %s, way %d: %s, %s, %v", text(x), text(y), way, digits(q), text(r), e)
		}
	}
}

// P3.4: powers and roots.
func TestPower(t *testing.T) {
	for _, x := range samples(4, 30) {
		for n := -5; n <= 5; n++ {
			p, e := x.Power(n)
			if n < 0 && x.Sign() == 0 {
				failed(t, "a power of 0", p, e, api.ErrZero)
				continue
			}
			want := big.NewRat(1, 1)
			for range max(n, -n) {
				want.Mul(want, bigOf(x))
			}
			if n < 0 {
				want.Inv(want)
			}
			same(t, "Power", p, want)
			next, _ := x.Power(n + 1)
			if x.Sign() != 0 && next.Cmp(p.Mul(x)) != 0 || e != api.OK {
				t.Errorf("%s to the power of %d: %v", text(x), n, e)
			}
		}
		root, e := x.Mul(x).Root()
		if root.Cmp(x.Abs()) != 0 || e != api.OK {
			t.Errorf("Root of the square of %s = %s, %v", text(x), text(root), e)
		}
	}
	for _, c := range []struct {
		x    string
		n    int
		want string
	}{{"2/3", -3, "27/8"}, {"-1", math.MinInt, "1"}, {"-1", math.MinInt + 1, "-1"}, {"-1", math.MaxInt, "-1"}, {"1", math.MinInt, "1"}, {"0", math.MaxInt, "0"}, {"0", 0, "1"}, {"-2/3", -1, "-3/2"}} {
		p, e := ratio(c.x).Power(c.n)
		if text(p) != c.want || e != api.OK {
			t.Errorf("%s to the power of %d = %s, %v", c.x, c.n, text(p), e)
		}
	}
}

func TestPowerLimits(t *testing.T) {
	most, _ := integer.New(-1).Shift(api.MaxBits)
	negative := rational.Of(most)
	below, _ := rational.New(integer.New(1), most)
	positive := negative.Neg()
	for _, c := range []struct {
		x    rational.Ratio
		n    int
		want api.Errno
	}{
		{ratio("1/2"), api.MaxBits - 1, api.OK}, {ratio("1/2"), api.MaxBits, api.ErrLarge}, {ratio("2"), -api.MaxBits, api.ErrLarge}, {ratio("2"), 1 - api.MaxBits, api.OK},
		{ratio("2"), math.MinInt, api.ErrLarge}, {ratio("1/2"), math.MinInt, api.ErrLarge}, {ratio("1/3"), math.MaxInt, api.ErrLarge},
		// the numerator -2^65536 has the Length 65536, and 2^65536 a greater one
		{negative, 1, api.OK}, {below, -1, api.OK}, {positive, 1, api.ErrLarge}, {below, 1, api.ErrLarge}, {positive, -1, api.ErrLarge}, {positive, 0, api.OK},
		{rational.Ratio{}, -1, api.ErrZero}, {rational.Ratio{}, math.MinInt, api.ErrZero},
	} {
		p, e := c.x.Power(c.n)
		if e != c.want || e != api.OK && p.Sign() != 0 {
			t.Errorf("power %d: %v; want %v", c.n, e, c.want)
		}
	}
}

func TestRoot(t *testing.T) {
	for _, c := range []struct {
		x, want string
		code    api.Errno
	}{{"9/4", "3/2", api.OK}, {"0", "0", api.OK}, {"16", "4", api.OK}, {"1/16", "1/4", api.OK}, {"2", "0", api.ErrNone}, {"1/2", "0", api.ErrNone}, {"2/9", "0", api.ErrNone}, {"9/2", "0", api.ErrNone}, {"-4", "0", api.ErrArg}, {"-2", "0", api.ErrArg}} {
		root, e := ratio(c.x).Root()
		if text(root) != c.want || e != c.code {
			t.Errorf("Root of %s = %s, %v", c.x, text(root), e)
		}
	}
}

// P3.7: texts in each radix.
func TestTexts(t *testing.T) {
	for _, x := range samples(5, 30) {
		for radix := 2; radix <= 36; radix++ {
			s, e := x.Text(radix)
			back, f := rational.Parse(s, radix)
			if back.Cmp(x) != 0 || e != api.OK || f != api.OK {
				t.Errorf("Text(%d) = %s, %v, read as %s, %v", radix, s, e, text(back), f)
			}
		}
	}
	for _, c := range []struct {
		s     string
		radix int
		want  string
	}{{"+06/4", 10, "3/2"}, {"-0/5", 10, "0"}, {"-ff/2", 16, "-255/2"}, {"10/10", 2, "1"}, {"-00", 10, "0"}, {"z/Z", 36, "1"}} {
		x, e := rational.Parse(c.s, c.radix)
		if text(x) != c.want || e != api.OK {
			t.Errorf("Parse(%q, %d) = %s, %v", c.s, c.radix, text(x), e)
		}
	}
	if s, _ := ratio("-255/16").Text(16); s != "-FF/10" {
		t.Errorf("-255/16 = %s", s)
	}
}

func TestTextErrors(t *testing.T) {
	long := strings.Repeat("1", api.MaxDigits-2)
	if x, e := rational.Parse(long+"/2", 10); e != api.OK || x.Whole() {
		t.Errorf("the longest text: %v", e)
	}
	for _, c := range []struct {
		s     string
		radix int
		want  api.Errno
	}{
		{"1/0", 10, api.ErrZero}, {"0/00", 10, api.ErrZero}, {"1/-2", 10, api.ErrForm}, {"1/+2", 10, api.ErrForm}, {"1/2/3", 10, api.ErrForm}, {"/2", 10, api.ErrForm}, {"1/", 10, api.ErrForm}, {"/", 10, api.ErrForm}, {"", 10, api.ErrForm}, {"x/0", 10, api.ErrForm}, {"1/x", 10, api.ErrForm}, {"1//2", 10, api.ErrForm}, {"1/2 ", 10, api.ErrForm},
		{long + "/70", 10, api.ErrLarge}, {long + "111", 10, api.ErrLarge}, {long + "/10", 2, api.ErrLarge}, {long + "/10", 36, api.ErrLarge}, {strings.Repeat("?", api.MaxDigits+1), 10, api.ErrLarge}, {strings.Repeat("?", api.MaxDigits+1), 1, api.ErrArg}, {"1/0", 37, api.ErrArg}, {"?", -1, api.ErrArg},
	} {
		x, e := rational.Parse(c.s, c.radix)
		failed(t, "Parse", x, e, c.want)
	}
	for _, radix := range []int{1, 37, -10, math.MinInt} {
		for _, x := range []rational.Ratio{ratio("1/2"), ratio("5")} {
			if s, e := x.Text(radix); s != "" || e != api.ErrArg {
				t.Errorf("Text(%d) = %q, %v", radix, s, e)
			}
		}
	}
}
