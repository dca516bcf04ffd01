package types_test

import (
	"fmt"
	"math/rand"
	"slices"
	"strconv"
	"strings"
	"testing"

	"commonform/api"
	"commonform/number"
	"commonform/types"
)

// P14.1: Integers, Plus and Times of single types.
func TestIntegers(t *testing.T) {
	for s, want := range map[string]string{
		"NIL": "none", "STRING": "none", "RATIO": "none", "T": "* *", "INTEGER": "* *", "BIT": "0 1", "UNSIGNED-BYTE": "0 *", "(INTEGER * (5))": "* 4", "(INTEGER (5) (6))": "none", "(INTEGER 5 1)": "none", "(REAL 1/2 7/2)": "1 3", "(REAL (1) (4))": "2 3", "(RATIONAL 1/2 2/3)": "none", "(EQL 1.0)": "none", "(SINGLE-FLOAT 0 9)": "none", "(REAL 0.5 3.5d0)": "1 3",
		"(NOT (INTEGER 0))": "* -1", "(NOT (INTEGER 0 5))": "* *", "(AND (INTEGER -7) (NOT (INTEGER -7 5)) (NOT (EQL 9)))": "6 *", "(AND (INTEGER 0 9) (NOT (MEMBER 0 1 9)))": "2 8", "FIXNUM": "-1152921504606846976 1152921504606846975", "BIGNUM": "* *", "(AND BIGNUM UNSIGNED-BYTE)": "1152921504606846976 *", "(SIGNED-BYTE 8)": "-128 127", "(MOD 1)": "0 0", "(OR (MOD 5) (EQL 9) STRING)": "0 9", "(AND INTEGER (NOT BIT))": "* *", "(CONS BIT)": "none", "(MEMBER 3 -4 1/2 5.0)": "-4 3", "ATOM": "* *", "(REAL -1.0e30 -1.0e29)": "-1000000015047466219876688855040 -100000001504746621987668885504",
	} {
		some, lo, hi, e := types.Integers(lisp(s))
		got := "none"
		if some {
			got = lo.Text + " " + hi.Text
		} else if lo.Kind != 0 || hi.Kind != 0 {
			t.Errorf("Integers of %s without any: %v, %v", s, lo, hi)
		}
		equal(t, "Integers of "+s, []any{got, e}, []any{want, 0})
		if some && lo.Text == "*" {
			equal(t, "*", lo, lisp("*"))
		}
	}
	nines := strings.Repeat("9", 200)
	for _, c := range [][4]string{
		{"BIT", "BIT", "(INTEGER 0 2)", "(INTEGER 0 1)"}, {"BIT", "NIL", "NIL", "NIL"}, {"NIL", "NIL", "NIL", "NIL"}, {"NIL", "STRING", "NUMBER", "NUMBER"}, {"RATIONAL", "NIL", "NUMBER", "NUMBER"}, {"BIT", "(OR BIT (EQL 1.0))", "NUMBER", "NUMBER"}, {"(RATIONAL 0 1)", "BIT", "NUMBER", "NUMBER"}, {"(AND (RATIONAL 0 1) (NOT RATIO))", "BIT", "(INTEGER 0 2)", "(INTEGER 0 1)"}, {"T", "BIT", "NUMBER", "NUMBER"},
		{"INTEGER", "(EQL 0)", "(INTEGER * *)", "(INTEGER 0 0)"}, {"(EQL 0)", "(INTEGER 5)", "(INTEGER 5 *)", "(INTEGER 0 0)"}, {"(INTEGER 1)", "(INTEGER 2)", "(INTEGER 3 *)", "(INTEGER 2 *)"}, {"(INTEGER 1)", "(INTEGER * 2)", "(INTEGER * *)", "(INTEGER * *)"}, {"(INTEGER 1)", "(INTEGER * 0)", "(INTEGER * *)", "(INTEGER * 0)"}, {"(INTEGER * -1)", "(INTEGER * -2)", "(INTEGER * -3)", "(INTEGER 2 *)"}, {"(INTEGER -1)", "(INTEGER 0 3)", "(INTEGER -1 *)", "(INTEGER -3 *)"}, {"(INTEGER 1)", "(INTEGER -2 0)", "(INTEGER -1 *)", "(INTEGER * 0)"}, {"INTEGER", "(MEMBER 2 3)", "(INTEGER * *)", "(INTEGER * *)"}, {"(INTEGER 0)", "(MOD 1)", "(INTEGER 0 *)", "(INTEGER 0 0)"},
		{"(INTEGER -2 3)", "(INTEGER -1 4)", "(INTEGER -3 7)", "(INTEGER -8 12)"}, {"(INTEGER -5 -2)", "(INTEGER 3 4)", "(INTEGER -2 2)", "(INTEGER -20 -6)"}, {"(EQL " + nines + ")", "(EQL 1)", "(INTEGER * *)", "(INTEGER " + nines + " " + nines + ")"}, {"(EQL -" + nines[1:] + ")", "(EQL -1)", "(INTEGER * *)", "(INTEGER " + nines[1:] + " " + nines[1:] + ")"}, {"(INTEGER 0 " + nines + ")", "(INTEGER 2 9)", "(INTEGER 2 *)", "(INTEGER 0 *)"},
	} {
		x, e := types.Plus(lisp(c[0]), lisp(c[1]))
		equal(t, "Plus of "+short(c), []any{text(x), e}, []any{text(lisp(c[2])), 0})
		x, e = types.Times(lisp(c[0]), lisp(c[1]))
		equal(t, "Times of "+short(c), []any{text(x), e}, []any{text(lisp(c[3])), 0})
	}
}

// members returns the integers from -most to most that are of a type, by the words of the chapter.
func members(of api.Form, most int) []int {
	var l []int
	for n := -most; n <= most; n++ {
		if is(whole(n), of) {
			l = append(l, n)
		}
	}
	return l
}

func whole(n int) api.Form { return api.Form{Kind: api.FormInt, Text: strconv.Itoa(n)} }

// limits returns the least and the greatest of numbers; * for one that is further than all bounds there are.
func limits(l []int, far int) string {
	lo, hi := slices.Min(l), slices.Max(l)
	s := [2]string{strconv.Itoa(lo), strconv.Itoa(hi)}
	if lo <= -far {
		s[0] = "*"
	}
	if hi >= far {
		s[1] = "*"
	}
	return s[0] + " " + s[1]
}

// P14.5: bounds of integers, by looking at all small ones.
func TestBounds(t *testing.T) {
	r := rand.New(rand.NewSource(147))
	for range 300 {
		of := someType(r, 1+r.Intn(3), 1)
		some, lo, hi, e := types.Integers(of)
		fails(t, "Integers", e, api.OK)
		l := members(of, 300)
		if len(l) > 0 && !strings.Contains(text(of), "BIGNUM") && !strings.Contains(text(of), "FIXNUM") {
			equal(t, "Integers of "+text(of), []any{some, lo.Text + " " + hi.Text}, []any{true, limits(l, 290)})
		}
		for _, x := range []api.Form{lo, hi} {
			if some && x.Kind == api.FormInt && !is(x, of) {
				t.Errorf("%s is not of %s", x.Text, text(of))
			}
		}
	}
}

// P14.5: sums and products of numbers are of Plus and Times, whose bounds are sums and products.
func TestSums(t *testing.T) {
	r := rand.New(rand.NewSource(148))
	for range 200 {
		a, b := someType(r, r.Intn(2), 0), someType(r, r.Intn(2), 0)
		if r.Intn(2) == 0 {
			a, b = anyIntegers(r), anyIntegers(r)
		}
		plus, e := types.Plus(a, b)
		times, f := types.Times(a, b)
		if e != api.OK || f != api.OK {
			t.Fatalf("Plus and Times of %s, %s: %v, %v", text(a), text(b), e, f)
		}
		var sums, products []int
		for _, x := range members(a, 30) {
			for _, y := range members(b, 30) {
				sums, products = append(sums, x+y), append(products, x*y)
			}
		}
		checkResults(t, fmt.Sprint("Plus of ", text(a), text(b)), plus, sums, small(a) && small(b))
		checkResults(t, fmt.Sprint("Times of ", text(a), text(b)), times, products, small(a) && small(b))
	}
	for _, x := range atoms() {
		for _, y := range atoms()[:40] {
			sum, e := number.Add(x, y)
			product, f := number.Mul(x, y)
			if e == api.OK && f == api.OK {
				a, _ := types.Of(x)
				b, _ := types.Of(y)
				plus, _ := types.Plus(a, b)
				times, _ := types.Times(a, b)
				if !is(sum, plus) || !is(product, times) {
					t.Errorf("%s and %s: %s, %s", text(x), text(y), text(plus), text(times))
				}
			}
		}
	}
}

// checkResults checks that results are of a type, and, if they come from small types, that it has no wider bounds.
func checkResults(t *testing.T, what string, of api.Form, results []int, bounded bool) {
	t.Helper()
	slices.Sort(results)
	results = slices.Compact(results)
	for _, n := range results {
		if !is(whole(n), of) {
			t.Fatalf("%s: %d is not of %s", what, n, text(of))
		}
	}
	if bounded && len(results) > 0 {
		equal(t, what, text(of), text(lisp("(INTEGER "+limits(results, 25)+")")))
	}
}

func anyIntegers(r *rand.Rand) api.Form {
	a, b := r.Intn(9)-4, r.Intn(9)-4
	l := []string{fmt.Sprintf("(INTEGER %d %d)", min(a, b), max(a, b)), fmt.Sprintf("(MEMBER %d %d)", a, b), fmt.Sprintf("(INTEGER %d)", a), fmt.Sprintf("(INTEGER * %d)", b), "INTEGER", "BIT"}
	return lisp(l[r.Intn(len(l))])
}

// small reports whether a type has only integers, whose bounds are small or none.
func small(of api.Form) bool {
	yes, _, _ := types.Subtypep(of, lisp("INTEGER"))
	_, lo, hi, _ := types.Integers(of)
	return yes && len(lo.Text) < 3 && len(hi.Text) < 3
}
