package float_test

import (
	"math"
	"math/big"
	"math/rand"
	"testing"

	"commonform/api"
	"commonform/float"
	"commonform/integer"
	"commonform/rational"
)

// P4.1: what is no float is ErrArg everywhere, ahead of all other errors, and with zero values.
func TestWrongFloats(t *testing.T) {
	for _, w := range wrong() {
		f, x := w.f, w.x
		for what, op := range map[string]func(f float.Format, x, y uint64) (uint64, api.Errno){"Add": float.Add, "Sub": float.Sub, "Mul": float.Mul, "Div": float.Div} {
			y, e := op(f, x, 0)
			refused(t, what, f, x, y, e)
			y, e = op(f, 0, x)
			refused(t, what+", second", f, x, y, e)
		}
		for what, op := range map[string]func(f float.Format, x uint64) (uint64, api.Errno){"Neg": float.Neg, "Root": float.Root} {
			y, e := op(f, x)
			refused(t, what, f, x, y, e)
		}
		y, e := float.Convert(f, x, float.Single)
		refused(t, "Convert", f, x, y, e)
		y, e = float.Scale(f, x, 1)
		refused(t, "Scale", f, x, y, e)
		y, e = float.Next(f, x, true)
		refused(t, "Next", f, x, y, e)
		v, e := float.Value(f, x)
		refused(t, "Value", f, x, uint64(v.Sign()), e)
		m, exponent, s, e := float.Decode(f, x)
		refused(t, "Decode", f, x, uint64(m.Sign()+exponent+s), e)
		n, e := float.Precision(f, x)
		refused(t, "Precision", f, x, uint64(n), e)
		n, e = float.Compare(f, x, float.Double, 0)
		refused(t, "Compare", f, x, uint64(n), e)
		n, e = float.Compare(float.Double, 0, f, x)
		refused(t, "Compare, second", f, x, uint64(n), e)
		digits, point, e := float.Shortest(f, x)
		refused(t, "Shortest", f, x, uint64(len(digits)+point), e)
		s2, e := float.Print(f, x, float.Single)
		refused(t, "Print", f, x, uint64(len(s2)), e)
	}
}

// refused checks that a call with what is no float returned ErrArg, and nothing else.
func refused(t *testing.T, what string, f float.Format, x, result uint64, e api.Errno) {
	t.Helper()
	if result != 0 || e != api.ErrArg {
		t.Errorf("%s of %d, %x: %x, %v", what, f, x, result, e)
	}
}

// P4.1: formats that are none.
func TestWrongFormats(t *testing.T) {
	for _, f := range []float.Format{-1, 2, math.MaxInt} {
		x, e := float.Nearest(f, ratio("5"))
		refused(t, "Nearest", f, 5, x, e)
		x, e = float.Convert(float.Single, 5, f)
		refused(t, "Convert", f, 5, x, e)
		x, e = float.Read(f, "?")
		refused(t, "Read", f, 5, x, e)
		s, e := float.Print(float.Single, 5, f)
		refused(t, "Print", f, 5, uint64(len(s)), e)
		n, e := float.Compare(float.Single, 5, f, 0)
		refused(t, "Compare", f, 5, uint64(n), e)
	}
}

// P4.1, P4.2: values and significands.
func TestValues(t *testing.T) {
	for _, f := range formats {
		for _, x := range samples(f, 1, 300) {
			v, e := float.Value(f, x)
			if want := new(big.Rat).SetFloat64(number(f, x)); bigOf(v).Cmp(want) != 0 || e != api.OK {
				t.Errorf("Value of %x = %s, %v; want %s", x, text(v), e, want)
			}
			checkDecode(t, f, x)
			back, e := float.Nearest(f, v)
			want := x
			if x == sign(f) {
				want = 0
			}
			same(t, f, "Nearest of Value", back, e, want)
		}
	}
	m, exponent, s, e := float.Decode(float.Single, 0x3f800000)
	if m.Cmp(integer.New(8388608)) != 0 || exponent != -23 || s != 1 || e != api.OK {
		t.Errorf("Decode of 1: %d, %d, %v", exponent, s, e)
	}
	if m, exponent, s, e := float.Decode(float.Single, 1<<31); m.Sign() != 0 || exponent != -149 || s != -1 || e != api.OK {
		t.Errorf("Decode of -0: %d, %d, %v", exponent, s, e)
	}
}

func checkDecode(t *testing.T, f float.Format, x uint64) {
	t.Helper()
	m, exponent, s, e := float.Decode(f, x)
	least, most, digits := -149, 104, 24
	if f == float.Double {
		least, most, digits = -1074, 971, 53
	}
	word, ok := m.Int64()
	value := math.Copysign(math.Ldexp(float64(word), exponent), float64(s))
	full := m.Length() == digits
	if !ok || e != api.OK || bitsOf(f, value) != x || exponent < least || exponent > most || !full && exponent != least || m.Length() > digits {
		t.Errorf("Decode of %x: %d, %d, %d, %v", x, word, exponent, s, e)
	}
	if n, e := float.Precision(f, x); n != m.Length() || e != api.OK {
		t.Errorf("Precision of %x = %d, %v", x, n, e)
	}
}

// P4.1, P4.2: the nearest float, against the library.
func TestNearest(t *testing.T) {
	r := rand.New(rand.NewSource(2))
	for range 3000 {
		n := new(big.Int).Rand(r, new(big.Int).Lsh(big.NewInt(1), uint(1+r.Intn(200))))
		d := new(big.Int).Rand(r, new(big.Int).Lsh(big.NewInt(1), uint(1+r.Intn(200))))
		x := new(big.Rat).SetFrac(n, d.Add(d, big.NewInt(1)))
		if r.Intn(2) == 0 {
			x.Neg(x)
		}
		checkNearest(t, x)
	}
	// fractions in the middle of two floats, and just beside it
	for _, f := range formats {
		for _, x := range samples(f, 3, 200) {
			next, e := float.Next(f, x, true)
			if e != api.OK {
				continue
			}
			a, b := new(big.Rat).SetFloat64(number(f, x)), new(big.Rat).SetFloat64(number(f, next))
			middle := new(big.Rat).Mul(new(big.Rat).Add(a, b), big.NewRat(1, 2))
			small := new(big.Rat).Mul(new(big.Rat).Sub(b, a), big.NewRat(1, 1<<40))
			checkNearest(t, middle)
			checkNearest(t, new(big.Rat).Add(middle, small))
			checkNearest(t, new(big.Rat).Sub(middle, small))
		}
	}
}

func checkNearest(t *testing.T, x *big.Rat) {
	t.Helper()
	single, _ := x.Float32()
	double, _ := x.Float64()
	got, e := float.Nearest(float.Single, ratioOf(x))
	same(t, float.Single, "Nearest of "+x.RatString(), got, e, uint64(math.Float32bits(single)))
	got, e = float.Nearest(float.Double, ratioOf(x))
	same(t, float.Double, "Nearest of "+x.RatString(), got, e, math.Float64bits(double))
}

func power2(n int) rational.Ratio {
	x, _ := ratio("2").Power(n)
	return x
}

func TestNearestLimits(t *testing.T) {
	top := power2(128).Sub(power2(103))
	huge := power2(api.MaxBits - 1)
	huge = huge.Mul(huge).Mul(huge)
	tiny, _ := ratio("1").Div(huge)
	for _, c := range []struct {
		f    float.Format
		x    rational.Ratio
		want uint64
		code api.Errno
	}{
		{float.Single, ratio("1/3"), 0x3eaaaaab, api.OK}, {float.Double, ratio("1/3"), 0x3fd5555555555555, api.OK}, {float.Single, rational.Ratio{}, 0, api.OK},
		{float.Single, power2(128), 0, api.ErrOver}, {float.Single, top, 0, api.ErrOver}, {float.Single, top.Sub(ratio("1")), 0x7f7fffff, api.OK}, {float.Single, ratio("1").Sub(top), 0xff7fffff, api.OK}, {float.Single, top.Neg(), 0, api.ErrOver},
		{float.Single, power2(-150), 0, api.OK}, {float.Single, power2(-150).Neg(), 1 << 31, api.OK}, {float.Single, power2(-150).Add(power2(-500)), 1, api.OK}, {float.Single, power2(-149).Mul(ratio("3/2")), 2, api.OK}, {float.Single, power2(-126).Sub(power2(-150)), 0x800000, api.OK},
		{float.Double, power2(1024), 0, api.ErrOver}, {float.Double, power2(-1075), 0, api.OK}, {float.Double, power2(-1076).Neg(), 1 << 63, api.OK}, {float.Double, power2(-1074), 1, api.OK},
		{float.Double, huge, 0, api.ErrOver}, {float.Double, tiny, 0, api.OK}, {float.Single, tiny.Neg(), 1 << 31, api.OK}, {float.Double, tiny.Add(ratio("1")), 0x3ff0000000000000, api.OK}, {float.Double, huge.Mul(tiny), 0x3ff0000000000000, api.OK},
	} {
		x, e := float.Nearest(c.f, c.x)
		if x != c.want || e != c.code {
			t.Errorf("Nearest = %x, %v; want %x, %v", x, e, c.want, c.code)
		}
	}
}

// P4.2: Nearest does not fall, and is one of the two neighbours.
func TestNearestOrder(t *testing.T) {
	r := rand.New(rand.NewSource(4))
	for range 500 {
		a, _ := rational.New(integer.New(r.Int63()), integer.New(1+r.Int63n(1<<r.Intn(60))))
		b := a.Add(power2(-r.Intn(40)))
		for _, f := range formats {
			x, _ := float.Nearest(f, a)
			y, _ := float.Nearest(f, b)
			if order, e := float.Compare(f, x, f, y); order > 0 || e != api.OK {
				t.Errorf("Nearest falls from %s to %s", text(a), text(b))
			}
			v, _ := float.Value(f, x)
			next, _ := float.Next(f, x, v.Cmp(a) < 0)
			w, _ := float.Value(f, next)
			if v.Sub(a).Abs().Cmp(w.Sub(a).Abs()) > 0 || v.Cmp(a) != 0 && v.Cmp(a) == w.Cmp(a) {
				t.Errorf("%s lies between %x and %x", text(a), x, next)
			}
		}
	}
}

// P4.2: converting keeps the sign of 0, and what goes to Double comes back.
func TestConvert(t *testing.T) {
	for _, x := range samples(float.Single, 5, 300) {
		double, e := float.Convert(float.Single, x, float.Double)
		same(t, float.Double, "Convert to Double", double, e, math.Float64bits(number(float.Single, x)))
		back, e := float.Convert(float.Double, double, float.Single)
		same(t, float.Single, "Convert back", back, e, x)
		stays, e := float.Convert(float.Single, x, float.Single)
		same(t, float.Single, "Convert to the same", stays, e, x)
	}
	for _, x := range samples(float.Double, 6, 1000) {
		single, e := float.Convert(float.Double, x, float.Single)
		same(t, float.Single, "Convert to Single", single, e, uint64(math.Float32bits(float32(number(float.Double, x)))))
	}
}

// P4.3: neighbours.
func TestNext(t *testing.T) {
	for _, f := range formats {
		for _, x := range samples(f, 7, 300) {
			up, e := float.Next(f, x, true)
			down, g := float.Next(f, x, false)
			if f == float.Single {
				same(t, f, "Next up", up, e, plus0(f, uint64(math.Float32bits(math.Nextafter32(float32(number(f, x)), float32(math.Inf(1)))))))
				same(t, f, "Next down", down, g, plus0(f, uint64(math.Float32bits(math.Nextafter32(float32(number(f, x)), float32(math.Inf(-1)))))))
			} else {
				same(t, f, "Next up", up, e, plus0(f, math.Float64bits(math.Nextafter(number(f, x), math.Inf(1)))))
				same(t, f, "Next down", down, g, plus0(f, math.Float64bits(math.Nextafter(number(f, x), math.Inf(-1)))))
			}
			if e == api.OK {
				back, h := float.Next(f, up, false)
				same(t, f, "Next down of Next up", back, h, plus0(f, x))
			}
		}
	}
	for _, c := range []struct {
		x    uint64
		up   bool
		want uint64
	}{{0, true, 1}, {0, false, 0x80000001}, {1 << 31, true, 1}, {1 << 31, false, 0x80000001}, {0x80000001, true, 0}, {1, false, 0}} {
		x, e := float.Next(float.Single, c.x, c.up)
		same(t, float.Single, "Next", x, e, c.want)
	}
}

// plus0 returns the float, but 0 for -0.
func plus0(f float.Format, x uint64) uint64 {
	if x == sign(f) {
		return 0
	}
	return x
}

// P4.1: scaling, for all powers.
func TestScale(t *testing.T) {
	for _, f := range formats {
		for _, x := range samples(f, 8, 200) {
			for _, n := range []int{0, 1, -1, 10, -10, 100, -100, -149, 149, -1074, 1100, -2200, 2200, 5000, -5000, math.MaxInt, math.MinInt} {
				got, e := float.Scale(f, x, n)
				want := math.Ldexp(number(f, x), min(max(n, -5000), 5000))
				if f == float.Single && want != 0 && math.Abs(want) < 1e-300 {
					continue // Go's Double is rounded itself
				}
				same(t, f, "Scale", got, e, bitsOf(f, want))
			}
		}
	}
	if x, e := float.Scale(float.Single, 0x3f800000, -149); x != 1 || e != api.OK {
		t.Errorf("2^-149 = %x, %v", x, e)
	}
	if x, e := float.Scale(float.Single, 1, -2); x != 0 || e != api.OK {
		t.Errorf("2^-151 = %x, %v", x, e)
	}
	if x, e := float.Scale(float.Single, 0x80000001, math.MinInt); x != 1<<31 || e != api.OK {
		t.Errorf("-2^-149 scaled down = %x, %v", x, e)
	}
}
