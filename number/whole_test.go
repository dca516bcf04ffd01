package number_test

import (
	"math"
	"math/big"
	"math/rand"
	"testing"

	"commonform/api"
	"commonform/number"
)

func numbers(l ...string) []api.Form {
	var f []api.Form
	for _, s := range l {
		f = append(f, num(s))
	}
	return f
}

// P5.1, P5.7: divisors and multiples.
func TestDivisors(t *testing.T) {
	for _, c := range []struct {
		l        []api.Form
		gcd, lcm string
	}{
		{nil, "0", "1"}, {numbers("0"), "0", "0"}, {numbers("-5"), "5", "5"}, {numbers("12", "-18"), "6", "36"}, {numbers("4", "6", "10"), "2", "60"}, {numbers("0", "7"), "7", "0"}, {numbers("7", "0", "5"), "1", "0"}, {numbers("-1", "-1"), "1", "1"},
	} {
		g, e := number.Gcd(c.l)
		equal(t, "Gcd", shown(t, g, e), c.gcd)
		m, e := number.Lcm(c.l)
		equal(t, "Lcm", shown(t, m, e), c.lcm)
	}
	r := rand.New(rand.NewSource(31))
	for range 200 {
		x, y := big.NewInt(r.Int63n(1<<30)-1<<29), big.NewInt(r.Int63n(1<<20)-1<<19)
		l := numbers(x.String(), y.String())
		product := must(number.Mul(must(number.Gcd(l)), must(number.Lcm(l))))
		equal(t, "Gcd by Lcm", product.Text, new(big.Int).Abs(new(big.Int).Mul(x, y)).String())
	}
}

func TestLcmLimit(t *testing.T) {
	power := func(n uint) api.Form {
		return api.Form{Kind: api.FormInt, Text: new(big.Int).Lsh(big.NewInt(1), n).String()}
	}
	for _, c := range []struct {
		l    []api.Form
		want api.Errno
	}{
		{[]api.Form{power(api.MaxBits - 1)}, api.OK}, {[]api.Form{power(api.MaxBits)}, api.ErrLarge}, {[]api.Form{power(api.MaxBits - 1), num("3")}, api.ErrLarge}, {[]api.Form{power(api.MaxBits - 1), num("4")}, api.OK}, {[]api.Form{power(api.MaxBits), num("3"), num("0")}, api.OK}, {[]api.Form{power(api.MaxBits), single(1)}, api.ErrType},
	} {
		x, e := number.Lcm(c.l)
		if e != c.want || e != api.OK && x.Kind != 0 {
			t.Errorf("Lcm of %d numbers: %v; want %v", len(c.l), e, c.want)
		}
	}
	if g, e := number.Gcd([]api.Form{power(api.MaxBits), power(5)}); e != api.OK || g.Text != "32" {
		t.Errorf("Gcd of large numbers: %v, %v", g, e)
	}
}

// P5.1: bits are those of layer integer.
func TestBits(t *testing.T) {
	for _, c := range []struct {
		op         int
		x, y, want string
	}{{8, "12", "10", "8"}, {14, "-4", "7", "-1"}, {6, "12", "10", "6"}, {3, "-4", "0", "3"}, {16, "1", "1", "!1"}, {-1, "1", "1", "!1"}, {math.MinInt, "1", "1", "!1"}} {
		z, e := number.Boole(c.op, num(c.x), num(c.y))
		equal(t, "Boole", shown(t, z, e), c.want)
	}
	for _, c := range []struct {
		x    string
		n    int
		want string
	}{{"-5", -1, "-3"}, {"5", 3, "40"}, {"0", math.MaxInt, "0"}, {"1", api.MaxBits, "!14"}, {"-7", math.MinInt, "-1"}} {
		z, e := number.Shift(num(c.x), c.n)
		equal(t, "Shift of "+c.x, shown(t, z, e), c.want)
	}
	z, e := number.Shift(num("1"), api.MaxBits-1)
	if e != api.OK || len(z.Text) != 19729 {
		t.Errorf("the greatest shift: %d digits, %v", len(z.Text), e)
	}
}
