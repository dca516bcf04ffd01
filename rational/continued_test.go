package rational_test

import (
	"math/rand"
	"strings"
	"testing"

	"commonform/api"
	"commonform/integer"
	"commonform/rational"
)

func terms(l []integer.Int) string {
	var words []string
	for _, n := range l {
		words = append(words, digits(n))
	}
	return strings.Join(words, " ")
}

func integers(n ...int64) []integer.Int {
	var l []integer.Int
	for _, x := range n {
		l = append(l, integer.New(x))
	}
	return l
}

// P3.5: continued fractions and back.
func TestExpansion(t *testing.T) {
	for x, want := range map[string]string{"43/30": "1 2 3 4", "-3/2": "-2 2", "0": "0", "7": "7", "-7": "-7", "1/3": "0 3", "-1/3": "-1 1 2"} {
		if s := terms(ratio(x).Expansion()); s != want {
			t.Errorf("Expansion of %s = %s", x, s)
		}
	}
	for _, x := range samples(6, 200) {
		l := x.Expansion()
		back, e := rational.Contract(l)
		if back.Cmp(x) != 0 || e != api.OK {
			t.Errorf("Contract of %s = %s, %v", terms(l), text(back), e)
		}
		for i, n := range l {
			if i > 0 && n.Sign() <= 0 || i > 0 && i == len(l)-1 && n.Cmp(integer.New(1)) <= 0 {
				t.Errorf("Expansion of %s = %s", text(x), terms(l))
			}
		}
	}
}

func TestContract(t *testing.T) {
	for _, c := range []struct {
		l    []integer.Int
		want string
		code api.Errno
	}{
		{nil, "0", api.ErrNone}, {integers(0), "0", api.OK}, {integers(-5), "-5", api.OK}, {integers(1, 2, 3, 4), "43/30", api.OK}, {integers(1, -2), "1/2", api.OK}, {integers(1, -2, -3), "4/7", api.OK},
		{integers(3, 1, -1), "0", api.ErrZero}, {integers(1, 0), "0", api.ErrZero}, {integers(1, 0, 0), "0", api.ErrZero}, {integers(1, 0, 2), "3", api.OK}, {integers(0, 0, 0, 5), "1/5", api.OK}, {integers(5, 1), "6", api.OK}, {integers(0, -1), "-1", api.OK},
	} {
		x, e := rational.Contract(c.l)
		if text(x) != c.want || e != c.code {
			t.Errorf("Contract of %s = %s, %v; want %s, %v", terms(c.l), text(x), e, c.want, c.code)
		}
	}
	// against the definition, step by step
	r := rand.New(rand.NewSource(7))
	for range 300 {
		var l []integer.Int
		for range 1 + r.Intn(6) {
			l = append(l, integer.New(r.Int63n(9)-4))
		}
		want, code := rational.Of(l[len(l)-1]), api.OK
		for i := len(l) - 2; i >= 0 && code == api.OK; i-- {
			var inverse rational.Ratio
			inverse, code = ratio("1").Div(want)
			want = rational.Of(l[i]).Add(inverse)
		}
		if code != api.OK {
			want = rational.Ratio{}
		}
		x, e := rational.Contract(l)
		if e != code || x.Cmp(want) != 0 || text(x) != text(want) {
			t.Errorf("Contract of %s = %s, %v; want %s, %v", terms(l), text(x), e, text(want), code)
		}
	}
}

// simpler reports whether x is simpler than y.
func simpler(x, y rational.Ratio) bool {
	if c := x.Denominator().Cmp(y.Denominator()); c != 0 {
		return c < 0
	}
	return x.Numerator().Abs().Cmp(y.Numerator().Abs()) < 0
}

// simplest looks for the simplest fraction among all with small denominators.
func simplest(low, high rational.Ratio) rational.Ratio {
	for d := int64(1); ; d++ {
		bottom := rational.Of(integer.New(d))
		first, _, _ := low.Mul(bottom).Quotient(rational.Ceiling, ratio("1"))
		last, _, _ := high.Mul(bottom).Quotient(rational.Floor, ratio("1"))
		if first.Cmp(last) > 0 {
			continue
		}
		best := first
		if last.Abs().Cmp(best.Abs()) < 0 {
			best = last
		}
		if first.Sign() <= 0 && last.Sign() >= 0 {
			best = integer.Int{}
		}
		x, _ := rational.New(best, integer.New(d))
		return x
	}
}

// P3.6: the simplest fraction.
func TestSimplest(t *testing.T) {
	for _, c := range []struct{ low, high, want string }{
		{"31/100", "32/100", "5/16"}, {"-1/2", "1/3", "0"}, {"1/2", "5/2", "1"}, {"-32/100", "-31/100", "-5/16"}, {"2/3", "2/3", "2/3"}, {"3", "7/2", "3"}, {"-7/2", "-3", "-3"}, {"0", "1/2", "0"}, {"-1/2", "0", "0"}, {"5/2", "7/2", "3"}, {"314/100", "315/100", "22/7"}, {"-7/2", "-5/2", "-3"}, {"11/5", "14/5", "5/2"}, {"-100", "-50", "-50"},
	} {
		x, e := rational.Simplest(ratio(c.low), ratio(c.high))
		if text(x) != c.want || e != api.OK {
			t.Errorf("Simplest from %s to %s = %s, %v", c.low, c.high, text(x), e)
		}
	}
	x, e := rational.Simplest(ratio("1/2"), ratio("1/3"))
	failed(t, "Simplest of a wrong order", x, e, api.ErrOrder)
	r := rand.New(rand.NewSource(8))
	for range 500 {
		low, _ := rational.New(integer.New(r.Int63n(2000)-1000), integer.New(1+r.Int63n(300)))
		wide, _ := rational.New(integer.New(r.Int63n(50)), integer.New(1+r.Int63n(2000)))
		high := low.Add(wide)
		x, e := rational.Simplest(low, high)
		if want := simplest(low, high); x.Cmp(want) != 0 || text(x) != text(want) || e != api.OK {
			t.Errorf("Simplest from %s to %s = %s, %v; want %s", text(low), text(high), text(x), e, text(want))
		}
		wider, _ := rational.Simplest(low.Sub(wide), high.Add(wide))
		if simpler(x, wider) || simpler(low, x) || simpler(high, x) || x.Cmp(low) < 0 || x.Cmp(high) > 0 {
			t.Errorf("Simplest from %s to %s = %s, in a wider range %s", text(low), text(high), text(x), text(wider))
		}
	}
}
