package float_test

import (
	"math"
	"math/big"
	"math/rand"
	"testing"

	"commonform/api"
	"commonform/float"
	"commonform/integer"
	"commonform/rational"
)

var formats = []float.Format{float.Single, float.Double}

func ratio(s string) rational.Ratio {
	x, e := rational.Parse(s, 10)
	if e != api.OK {
		panic(s)
	}
	return x
}

func text(x rational.Ratio) string {
	s, _ := x.Text(10)
	return s
}

// number returns the float of Go with these bits. (Each Single is a Double, too.)
func number(f float.Format, x uint64) float64 {
	if f == float.Single {
		return float64(math.Float32frombits(uint32(x)))
	}
	return math.Float64frombits(x)
}

// bitsOf returns the bits of the float nearest to one of Go.
func bitsOf(f float.Format, x float64) uint64 {
	if f == float.Single {
		return uint64(math.Float32bits(float32(x)))
	}
	return math.Float64bits(x)
}

// bigOf returns the fraction of the library.
func bigOf(x rational.Ratio) *big.Rat {
	r, ok := new(big.Rat).SetString(text(x))
	if !ok {
		panic(text(x))
	}
	return r
}

// ratioOf returns the fraction of one of the library.
func ratioOf(x *big.Rat) rational.Ratio { return ratio(x.RatString()) }

func sign(f float.Format) uint64 { return [2]uint64{1 << 31, 1 << 63}[f] }

func infinity(f float.Format) uint64 { return [2]uint64{0x7f800000, 0x7ff0000000000000}[f] }

func finite(f float.Format, x uint64) bool { return x&^sign(f) < infinity(f) }

// edges returns floats at the edges of a format, with both signs.
func edges(f float.Format) []uint64 {
	hidden := [2]uint64{1 << 23, 1 << 52}[f]
	one := bitsOf(f, 1)
	var l []uint64
	for _, x := range []uint64{0, 1, 2, 3, hidden - 1, hidden, hidden + 1, 2*hidden - 1, 2 * hidden, one - 1, one, one + 1, bitsOf(f, 2), bitsOf(f, 1.5), bitsOf(f, 0.1), bitsOf(f, 3), bitsOf(f, 1e7), bitsOf(f, 1e-3), infinity(f) - hidden, infinity(f) - 2, infinity(f) - 1} {
		l = append(l, x, x|sign(f))
	}
	return l
}

// samples returns the edges, and random floats with exponents of all sizes, or near each other.
func samples(f float.Format, seed int64, n int) []uint64 {
	l := edges(f)
	r := rand.New(rand.NewSource(seed))
	for len(l) < n {
		x := r.Uint64()
		if f == float.Single {
			x &= 1<<32 - 1
		}
		if r.Intn(2) == 0 {
			x = bitsOf(f, (r.Float64()-0.5)*math.Ldexp(1, r.Intn(40)))
		}
		if finite(f, x) {
			l = append(l, x)
		}
	}
	return l
}

// same checks a result against a float of Go; one that is not finite stands for ErrOver.
func same(t *testing.T, f float.Format, what string, x uint64, e api.Errno, want uint64) {
	t.Helper()
	code := api.OK
	if !finite(f, want) {
		want, code = 0, api.ErrOver
	}
	if x != want || e != code {
		t.Errorf("%s = %x, %v; want %x, %v", what, x, e, want, code)
	}
}

// wrong returns arguments that are no floats, with their formats.
func wrong() []struct {
	f float.Format
	x uint64
} {
	return []struct {
		f float.Format
		x uint64
	}{{float.Single, 0x7f800000}, {float.Single, 0xff800000}, {float.Single, 0x7fc00000}, {float.Single, 1 << 32}, {float.Single, math.MaxUint64}, {float.Double, 0x7ff0000000000000}, {float.Double, 0xfff0000000000000}, {float.Double, math.MaxUint64}, {2, 0}, {-1, 0}, {math.MaxInt, 0}, {math.MinInt, 0}}
}

func whole(n int64) rational.Ratio { return rational.Of(integer.New(n)) }
