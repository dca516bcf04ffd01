package integer_test

import (
	"math"
	"math/big"
	"math/rand"
	"slices"
	"testing"

	"commonform/api"
	"commonform/integer"
)

// P2.1: numbers, limbs and words.
func TestNumbers(t *testing.T) {
	for _, n := range []int64{0, 1, -1, 5, -5, 1<<32 - 1, 1 << 32, -1 << 32, math.MaxInt64, math.MinInt64, math.MinInt64 + 1} {
		x := integer.New(n)
		same(t, "New", x, big.NewInt(n))
		if back, ok := x.Int64(); back != n || !ok {
			t.Errorf("Int64 of %d = %d, %v", n, back, ok)
		}
	}
	for _, x := range []integer.Int{power2(63), power2(63).Neg().Sub(integer.New(1)), power2(64), power2(64).Neg(), power2(200)} {
		if n, ok := x.Int64(); n != 0 || ok {
			t.Errorf("Int64 of %v = %d, %v", bigOf(x), n, ok)
		}
	}
	for _, c := range []struct {
		negative bool
		limbs    []uint32
		want     string
	}{
		{false, nil, "0"}, {true, nil, "0"}, {true, []uint32{0, 0}, "0"}, {true, []uint32{5, 1, 0, 0}, "-4294967301"}, {false, []uint32{0, 0, 1}, "18446744073709551616"},
	} {
		x := integer.Make(c.negative, c.limbs)
		wellFormed(t, "Make", x)
		if s, e := x.Text(10); s != c.want || e != api.OK {
			t.Errorf("Make(%v, %v) = %s, %v", c.negative, c.limbs, s, e)
		}
	}
	var zero integer.Int
	if zero.Sign() != 0 || zero.Cmp(integer.New(0)) != 0 || zero.Odd() || zero.Length() != 0 {
		t.Error("the zero value is not 0")
	}
}

// R4: what goes in and what comes out is not shared.
func TestMemory(t *testing.T) {
	limbs := []uint32{1, 2, 3}
	x := integer.Make(false, limbs)
	limbs[0] = 9
	_, out := x.Limbs()
	out[1] = 9
	neg := x.Neg()
	_, out = neg.Limbs()
	out[2] = 9
	if _, l := x.Limbs(); !slices.Equal(l, []uint32{1, 2, 3}) {
		t.Errorf("limbs changed to %v", l)
	}
}

// P2.1: comparing, and all arithmetic, against the library.
func TestArithmetic(t *testing.T) {
	l := samples()
	for _, x := range l {
		a := bigOf(x)
		if x.Sign() != a.Sign() || x.Odd() != (a.Bit(0) == 1) {
			t.Errorf("%v: Sign %d, Odd %v", a, x.Sign(), x.Odd())
		}
		same(t, "Neg", x.Neg(), new(big.Int).Neg(a))
		same(t, "Abs", x.Abs(), new(big.Int).Abs(a))
		for _, y := range l {
			checkPair(t, x, y)
		}
	}
}

func checkPair(t *testing.T, x, y integer.Int) {
	t.Helper()
	a, b := bigOf(x), bigOf(y)
	if x.Cmp(y) != a.Cmp(b) {
		t.Errorf("Cmp of %v and %v = %d", a, b, x.Cmp(y))
	}
	same(t, "Add", x.Add(y), new(big.Int).Add(a, b))
	same(t, "Sub", x.Sub(y), new(big.Int).Sub(a, b))
	same(t, "Mul", x.Mul(y), new(big.Int).Mul(a, b))
	same(t, "Gcd", x.Gcd(y), new(big.Int).GCD(nil, nil, new(big.Int).Abs(a), new(big.Int).Abs(b)))
	q, r, e := x.Divide(y)
	if b.Sign() == 0 {
		zeroWith(t, "quotient by 0", q, e, api.ErrZero)
		zeroWith(t, "remainder by 0", r, e, api.ErrZero)
		return
	}
	wantQ, wantR := new(big.Int).QuoRem(a, b, new(big.Int))
	same(t, "quotient", q, wantQ)
	same(t, "remainder", r, wantR)
	if e != api.OK {
		t.Errorf("Divide of %v and %v: %v", a, b, e)
	}
}

// P2.1: long numbers, for which quotient digits and common divisors are guessed.
func TestLongArithmetic(t *testing.T) {
	r := rand.New(rand.NewSource(2))
	for range 400 {
		x, y, z := random(r, 60), random(r, 60), random(r, 30)
		checkPair(t, x, y)
		checkPair(t, x.Mul(z), y.Mul(z))
		checkPair(t, x.Mul(y).Add(z), y)
	}
	// neighbours in the sequence of Fibonacci need the most steps
	a, b := integer.New(0), integer.New(1)
	for range 3000 {
		a, b = b, a.Add(b)
	}
	checkPair(t, b, a)
}

// P2.3: the examples and the laws of division.
func TestDivision(t *testing.T) {
	q, r, e := integer.New(-7).Divide(integer.New(2))
	same(t, "-7/2", q, big.NewInt(-3))
	same(t, "-7 mod 2", r, big.NewInt(-1))
	if e != api.OK {
		t.Error(e)
	}
	same(t, "Gcd of -12 and 18", integer.New(-12).Gcd(integer.New(18)), big.NewInt(6))
	same(t, "Gcd of 0 and 0", integer.Int{}.Gcd(integer.Int{}), big.NewInt(0))
	random1 := rand.New(rand.NewSource(3))
	for range 300 {
		x, y, n := random(random1, 9), random(random1, 5), random(random1, 3)
		g := x.Gcd(y)
		if y.Sign() != 0 {
			q, r, _ := x.Divide(y)
			if y.Mul(q).Add(r).Cmp(x) != 0 || r.Abs().Cmp(y.Abs()) >= 0 || r.Sign()*x.Sign() < 0 {
				t.Errorf("%v by %v: %v, %v", bigOf(x), bigOf(y), bigOf(q), bigOf(r))
			}
			_, restX, _ := x.Divide(g)
			_, restY, _ := y.Divide(g)
			if restX.Sign() != 0 || restY.Sign() != 0 {
				t.Errorf("Gcd %v does not divide %v and %v", bigOf(g), bigOf(x), bigOf(y))
			}
		}
		if x.Mul(n).Gcd(y.Mul(n)).Cmp(g.Mul(n.Abs())) != 0 {
			t.Errorf("Gcd of multiples of %v and %v by %v", bigOf(x), bigOf(y), bigOf(n))
		}
	}
}

// P2.2: the laws of the ring and of order.
func TestRing(t *testing.T) {
	r := rand.New(rand.NewSource(4))
	equal := func(what string, a, b integer.Int) {
		t.Helper()
		if a.Cmp(b) != 0 {
			t.Errorf("%s: %v, %v", what, bigOf(a), bigOf(b))
		}
	}
	for range 300 {
		x, y, z := random(r, 6), random(r, 6), random(r, 6)
		equal("x + y", x.Add(y), y.Add(x))
		equal("x y", x.Mul(y), y.Mul(x))
		equal("x + y + z", x.Add(y).Add(z), x.Add(y.Add(z)))
		equal("x y z", x.Mul(y).Mul(z), x.Mul(y.Mul(z)))
		equal("x (y + z)", x.Mul(y.Add(z)), x.Mul(y).Add(x.Mul(z)))
		equal("x + y - y", x.Add(y).Sub(y), x)
		if x.Cmp(y) != -y.Cmp(x) || x.Cmp(y) != x.Add(z).Cmp(y.Add(z)) || x.Cmp(y) != x.Sub(y).Sign() {
			t.Errorf("order of %v and %v", bigOf(x), bigOf(y))
		}
		if z.Sign() > 0 && x.Cmp(y) != x.Mul(z).Cmp(y.Mul(z)) {
			t.Errorf("order of products of %v and %v", bigOf(x), bigOf(y))
		}
		if x.Cmp(y) <= 0 && y.Cmp(z) <= 0 && x.Cmp(z) > 0 {
			t.Errorf("order of %v, %v and %v", bigOf(x), bigOf(y), bigOf(z))
		}
	}
}

// P2.1, P2.4: powers and their limit.
func TestPower(t *testing.T) {
	for _, x := range []int64{-10, -3, -2, -1, 0, 1, 2, 3, 7, 1 << 40} {
		for n := range 20 {
			p, e := integer.New(x).Power(n)
			same(t, "Power", p, new(big.Int).Exp(big.NewInt(x), big.NewInt(int64(n)), nil))
			if e != api.OK {
				t.Errorf("%d^%d: %v", x, n, e)
			}
		}
	}
	for _, c := range []struct {
		x    integer.Int
		n    int
		want api.Errno
	}{
		{integer.New(2), -1, api.ErrArg}, {integer.New(0), math.MinInt, api.ErrArg},
		{integer.New(2), api.MaxBits, api.ErrLarge}, {integer.New(2), math.MaxInt, api.ErrLarge}, {integer.New(5), math.MaxInt, api.ErrLarge}, {integer.New(-4), api.MaxBits / 2, api.ErrLarge},
		{power2(api.MaxBits), 1, api.ErrLarge}, {integer.New(-2), api.MaxBits, api.ErrLarge}, {power2(api.MaxBits + 5), 3, api.ErrLarge}, {integer.New(3), 41349, api.ErrLarge},
	} {
		p, e := c.x.Power(c.n)
		zeroWith(t, "Power", p, e, c.want)
	}
	for _, c := range []struct {
		x      integer.Int
		n      int
		length int
	}{
		{integer.New(2), api.MaxBits - 1, api.MaxBits}, {power2(api.MaxBits).Neg(), 1, api.MaxBits}, {power2(api.MaxBits + 5), 0, 1},
		{integer.New(-1), math.MaxInt, 0}, {integer.New(-1), math.MaxInt - 1, 1}, {integer.New(0), math.MaxInt, 0}, {integer.New(0), 0, 1}, {integer.New(3), 41348, api.MaxBits}, {integer.New(-2), api.MaxBits - 1, api.MaxBits - 1},
	} {
		p, e := c.x.Power(c.n)
		if e != api.OK || p.Length() != c.length {
			t.Errorf("power %d of a number of length %d: length %d, %v", c.n, c.x.Length(), p.Length(), e)
		}
	}
	r := rand.New(rand.NewSource(5))
	for range 50 {
		x, a, b := random(r, 4), r.Intn(20), r.Intn(20)
		p, _ := x.Power(a)
		q, _ := x.Power(b)
		both, e := x.Power(a + b)
		if e != api.OK || p.Mul(q).Cmp(both) != 0 {
			t.Errorf("%v to the power of %d + %d: %v", bigOf(x), a, b, e)
		}
	}
}

// P2.4: roots.
func TestRoot(t *testing.T) {
	for n := range int64(1000) {
		root, e := integer.New(n).Root()
		same(t, "Root", root, new(big.Int).Sqrt(big.NewInt(n)))
		if e != api.OK {
			t.Errorf("Root of %d: %v", n, e)
		}
	}
	for _, x := range samples() {
		root, e := x.Mul(x).Root()
		if e != api.OK || root.Cmp(x.Abs()) != 0 {
			t.Errorf("Root of the square of %v = %v, %v", bigOf(x), bigOf(root), e)
		}
		root, e = x.Root()
		if x.Sign() < 0 {
			zeroWith(t, "Root", root, e, api.ErrArg)
			continue
		}
		next := root.Add(integer.New(1))
		if e != api.OK || root.Mul(root).Cmp(x) > 0 || next.Mul(next).Cmp(x) <= 0 {
			t.Errorf("Root of %v = %v, %v", bigOf(x), bigOf(root), e)
		}
	}
}
