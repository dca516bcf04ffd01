package float_test

import (
	"math"
	"math/rand"
	"testing"

	"commonform/api"
	"commonform/float"
)

// operate calculates as the machine does, with one rounding.
func operate(f float.Format, op byte, x, y uint64) uint64 {
	if f == float.Double {
		a, b := math.Float64frombits(x), math.Float64frombits(y)
		return math.Float64bits(map[byte]float64{'+': a + b, '-': a - b, '*': a * b, '/': a / b}[op])
	}
	a, b := math.Float32frombits(uint32(x)), math.Float32frombits(uint32(y))
	return uint64(math.Float32bits(map[byte]float32{'+': a + b, '-': a - b, '*': a * b, '/': a / b}[op]))
}

// P4.1, P4.4: arithmetic, against the machine's.
func TestArithmetic(t *testing.T) {
	for _, f := range formats {
		l := samples(f, 11, 120)
		for _, x := range l {
			neg, e := float.Neg(f, x)
			same(t, f, "Neg", neg, e, x^sign(f))
			zero, e := float.Add(f, x, x^sign(f))
			same(t, f, "x - x", zero, e, 0)
			for _, y := range l {
				checkPair(t, f, x, y)
			}
		}
	}
}

func checkPair(t *testing.T, f float.Format, x, y uint64) {
	t.Helper()
	sum, e := float.Add(f, x, y)
	same(t, f, "Add", sum, e, operate(f, '+', x, y))
	swapped, g := float.Add(f, y, x)
	if swapped != sum || g != e {
		t.Errorf("Add of %x and %x: %x, %v, and %x, %v", x, y, sum, e, swapped, g)
	}
	d, e := float.Sub(f, x, y)
	same(t, f, "Sub", d, e, operate(f, '-', x, y))
	p, e := float.Mul(f, x, y)
	same(t, f, "Mul", p, e, operate(f, '*', x, y))
	swapped, g = float.Mul(f, y, x)
	if swapped != p || g != e {
		t.Errorf("Mul of %x and %x: %x, %v, and %x, %v", x, y, p, e, swapped, g)
	}
	q, e := float.Div(f, x, y)
	if y&^sign(f) == 0 {
		if q != 0 || e != api.ErrZero {
			t.Errorf("%x by %x = %x, %v", x, y, q, e)
		}
		return
	}
	same(t, f, "Div", q, e, operate(f, '/', x, y))
}

// P4.4: the examples, and 0 with its signs.
func TestArithmeticExamples(t *testing.T) {
	const one, minus0 = 0x3f800000, 0x80000000
	for _, c := range []struct {
		op      func(f float.Format, x, y uint64) (uint64, api.Errno)
		x, y    uint64
		want    uint64
		code    api.Errno
		comment string
	}{
		{float.Add, one, 0x33800000, one, api.OK, "1 + 2^-24"}, {float.Add, one, 0x33800001, 0x3f800001, api.OK, "a little more"},
		{float.Add, minus0, minus0, minus0, api.OK, "-0 + -0"}, {float.Add, minus0, 0, 0, api.OK, "-0 + 0"}, {float.Add, 0, 0, 0, api.OK, "0 + 0"}, {float.Add, 0xbf800000, one, 0, api.OK, "-1 + 1"},
		{float.Sub, 0, 0, 0, api.OK, "0 - 0"}, {float.Sub, minus0, 0, minus0, api.OK, "-0 - 0"}, {float.Sub, minus0, minus0, 0, api.OK, "-0 - -0"},
		{float.Mul, minus0, one, minus0, api.OK, "-0 by 1"}, {float.Mul, minus0, minus0, 0, api.OK, "-0 by -0"}, {float.Mul, 0, 0xbf800000, minus0, api.OK, "0 by -1"}, {float.Mul, 0x80000001, 1, minus0, api.OK, "rounded to -0"},
		{float.Div, 0, 0xbf800000, minus0, api.OK, "0 by -1"}, {float.Div, one, minus0, 0, api.ErrZero, "1 by -0"}, {float.Div, 0, 0, 0, api.ErrZero, "0 by 0"}, {float.Div, 0x7f7fffff, 1, 0, api.ErrOver, "over"}, {float.Mul, 0x7f7fffff, 0x40000000, 0, api.ErrOver, "over"}, {float.Add, 0x7f7fffff, 0x7f7fffff, 0, api.ErrOver, "over"}, {float.Add, 0xff7fffff, 0xf3000000, 0, api.ErrOver, "half a place over"}, {float.Add, 0xff7fffff, 0xf2ffffff, 0xff7fffff, api.OK, "a little less"},
	} {
		x, e := c.op(float.Single, c.x, c.y)
		if x != c.want || e != c.code {
			t.Errorf("%s: %x, %v; want %x, %v", c.comment, x, e, c.want, c.code)
		}
	}
}

// P4.4: the difference of Singles that are at most a factor of 2 apart is exact, and Mul by a power of two is Scale.
func TestExact(t *testing.T) {
	r := rand.New(rand.NewSource(12))
	for _, x := range samples(float.Single, 13, 400) {
		if x&^sign(float.Single) < 2 || x&^sign(float.Single) > 0x7f000000 {
			continue
		}
		y := (x + uint64(r.Intn(1<<23))) ^ sign(float.Single)
		if !finite(float.Single, y) {
			continue
		}
		a, _ := float.Value(float.Single, x)
		b, _ := float.Value(float.Single, y)
		if b.Abs().Cmp(a.Abs().Add(a.Abs())) > 0 {
			continue
		}
		sum, e := float.Add(float.Single, x, y)
		s, _ := float.Value(float.Single, sum)
		if s.Cmp(a.Add(b)) != 0 || e != api.OK {
			t.Errorf("%x + %x = %x, %v", x, y, sum, e)
		}
	}
	for _, f := range formats {
		for _, x := range samples(f, 14, 100) {
			for n := -120; n <= 120; n += 7 {
				p, e := float.Mul(f, x, bitsOf(f, math.Ldexp(1, n)))
				s, g := float.Scale(f, x, n)
				if p != s || e != g {
					t.Errorf("%x by 2^%d: %x, %v, and %x, %v", x, n, p, e, s, g)
				}
			}
		}
	}
}

// P4.4: roots.
func TestRoot(t *testing.T) {
	for _, f := range formats {
		for _, x := range samples(f, 15, 500) {
			root, e := float.Root(f, x)
			v, _ := float.Value(f, x)
			if v.Sign() < 0 {
				if root != 0 || e != api.ErrArg {
					t.Errorf("Root of %x = %x, %v", x, root, e)
				}
				continue
			}
			// the square root of a Double is right for a Single, too: it has more than twice the digits
			same(t, f, "Root", root, e, bitsOf(f, math.Sqrt(number(f, x))))
			square, e := float.Mul(f, x, x)
			w, _ := float.Value(f, square)
			if e == api.OK && square != 0 && w.Cmp(v.Mul(v)) == 0 {
				root, e := float.Root(f, square)
				same(t, f, "Root of the square", root, e, x&^sign(f))
			}
		}
	}
	if root, e := float.Root(float.Single, 0x40000000); root != 0x3fb504f3 || e != api.OK {
		t.Errorf("Root of 2 = %x, %v", root, e)
	}
	if root, e := float.Root(float.Double, 1<<63); root != 1<<63 || e != api.OK {
		t.Errorf("Root of -0 = %x, %v", root, e)
	}
	if _, e := float.Root(float.Single, 0x80000001); e != api.ErrArg {
		t.Errorf("Root of the greatest number below 0: %v", e)
	}
}

// P4.4: Compare is the order of the values, in both formats.
func TestCompare(t *testing.T) {
	for _, f := range formats {
		for _, g := range formats {
			for _, x := range samples(f, 16, 90) {
				for _, y := range samples(g, 17, 90) {
					a, b := number(f, x), number(g, y)
					want := 0
					if a < b {
						want = -1
					} else if a > b {
						want = 1
					}
					if n, e := float.Compare(f, x, g, y); n != want || e != api.OK {
						t.Errorf("Compare of %g and %g = %d, %v", a, b, n, e)
					}
				}
			}
		}
	}
	if n, e := float.Compare(float.Single, 0x3dcccccd, float.Double, 0x3fb999999999999a); n != 1 || e != api.OK {
		t.Errorf("0.1 as Single and as Double: %d, %v", n, e)
	}
	if n, e := float.Compare(float.Single, 1<<31, float.Double, 0); n != 0 || e != api.OK {
		t.Errorf("-0 and 0: %d, %v", n, e)
	}
}
