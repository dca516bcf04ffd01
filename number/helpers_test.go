package number_test

import (
	"math"
	"math/big"
	"math/rand"
	"strconv"
	"strings"
	"testing"

	"commonform/api"
	"commonform/number"
)

// num returns the number of a token; #C(a b) is a complex one.
func num(s string) api.Form {
	if parts, ok := strings.CutPrefix(s, "#C("); ok {
		re, im, _ := strings.Cut(strings.TrimSuffix(parts, ")"), " ")
		return api.Form{Kind: api.FormComplex, Kids: []api.Form{num(re), num(im)}}
	}
	x, e := number.Read(s, 10, false)
	if e != api.OK {
		panic(s)
	}
	return x
}

// shown returns the text of a number, or the code of its error behind an exclamation mark; and it checks what all results have to keep.
func shown(t *testing.T, x api.Form, e api.Errno) string {
	t.Helper()
	if e != api.OK {
		if x.Kind != 0 || x.Text != "" || x.Home != "" || len(x.Kids) > 0 {
			t.Errorf("%v with the error %v", x, e)
		}
		return "!" + e.Error()
	}
	if e := number.Check(x); e != api.OK {
		t.Errorf("Check of the result %v: %v", x, e)
	}
	s, e := number.Print(x, 10, false, false)
	if e != api.OK {
		t.Errorf("Print of the result %v: %v", x, e)
	}
	return s
}

func equal(t *testing.T, what, got, want string) {
	t.Helper()
	if got != want {
		t.Errorf("%s = %.100s; want %.100s", what, got, want)
	}
}

func single(x float32) api.Form {
	s := strconv.FormatUint(uint64(math.Float32bits(x)), 16)
	return api.Form{Kind: api.FormSingle, Text: strings.Repeat("0", 8-len(s)) + s}
}

func double(x float64) api.Form {
	s := strconv.FormatUint(math.Float64bits(x), 16)
	return api.Form{Kind: api.FormDouble, Text: strings.Repeat("0", 16-len(s)) + s}
}

func pair(a, b api.Form) api.Form {
	return api.Form{Kind: api.FormComplex, Kids: []api.Form{a, b}}
}

// exactOf returns the form of a fraction of the library.
func exactOf(x *big.Rat) api.Form {
	if x.IsInt() {
		return api.Form{Kind: api.FormInt, Text: x.Num().String()}
	}
	return api.Form{Kind: api.FormRatio, Text: x.String()}
}

// bigOf returns the value of a real number as a fraction of the library.
func bigOf(x api.Form) *big.Rat {
	switch x.Kind {
	case api.FormSingle:
		bits, _ := strconv.ParseUint(x.Text, 16, 32)
		return new(big.Rat).SetFloat64(float64(math.Float32frombits(uint32(bits))))
	case api.FormDouble:
		bits, _ := strconv.ParseUint(x.Text, 16, 64)
		return new(big.Rat).SetFloat64(math.Float64frombits(bits))
	}
	r, ok := new(big.Rat).SetString(x.Text)
	if !ok {
		panic(x.Text)
	}
	return r
}

func randomRat(r *rand.Rand) *big.Rat {
	x := big.NewRat(r.Int63n(1<<r.Intn(62)+1), 1+r.Int63n(1<<r.Intn(40)))
	if r.Intn(2) == 0 {
		x.Neg(x)
	}
	return x
}

// randomReal returns a number of one of the four kinds.
func randomReal(r *rand.Rand) api.Form {
	switch r.Intn(4) {
	case 0:
		return exactOf(big.NewRat(r.Int63n(2000)-1000, 1))
	case 1:
		return exactOf(randomRat(r))
	case 2:
		return single(float32((r.Float64() - 0.5) * math.Ldexp(1, r.Intn(40)-10)))
	}
	return double((r.Float64() - 0.5) * math.Ldexp(1, r.Intn(40)-10))
}

// reals returns numbers of all kinds, 0 and its like among them.
func reals(seed int64, n int) []api.Form {
	l := []api.Form{num("0"), num("1"), num("-1"), num("1/2"), num("-7/3"), single(0), single(float32(math.Copysign(0, -1))), double(0), double(math.Copysign(0, -1)), single(1.5), single(-0.1), double(0.1), double(-2.5), single(math.MaxFloat32), double(math.MaxFloat64), single(math.SmallestNonzeroFloat32), num("123456789012345678901234567890")}
	r := rand.New(rand.NewSource(seed))
	for range n {
		l = append(l, randomReal(r))
	}
	return l
}

// rationals returns complex and real numbers with exact parts.
func rationals(seed int64, n int) []api.Form {
	r := rand.New(rand.NewSource(seed))
	l := []api.Form{num("0"), num("1"), num("#C(0 1)"), num("#C(1 -1)")}
	for range n {
		re, im := randomRat(r), randomRat(r)
		if r.Intn(3) == 0 || im.Sign() == 0 {
			l = append(l, exactOf(re))
			continue
		}
		l = append(l, pair(exactOf(re), exactOf(im)))
	}
	return l
}

func must(x api.Form, e api.Errno) api.Form {
	if e != api.OK {
		panic(e)
	}
	return x
}

// parts returns the parts of a number.
func parts(x api.Form) (a, b api.Form) {
	if x.Kind == api.FormComplex {
		return x.Kids[0], x.Kids[1]
	}
	return x, num("0")
}

// huge returns an integer with so many digits.
func huge(digits int) api.Form {
	return api.Form{Kind: api.FormInt, Text: "1" + strings.Repeat("0", digits-1)}
}
