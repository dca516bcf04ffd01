package types_test

import (
	"fmt"
	"math/rand"
	"strings"
	"testing"

	"commonform/api"
	"commonform/forms"
	"commonform/types"
)

// P14.1: the chapter's examples.
func TestExamples(t *testing.T) {
	for of, want := range map[string]bool{"BIT": true, "(MOD 2)": true, "(INTEGER (0) *)": true, "(INTEGER (1))": false} {
		equal(t, "1 of "+of, typep(t, lisp("1"), lisp(of)), want)
	}
	for _, c := range []struct {
		a, b string
		want bool
	}{
		{"(INTEGER 1 5)", "(OR (INTEGER 0 3) (INTEGER 4 9))", true},
		{"(RATIONAL 1 5)", "(OR (RATIONAL 0 3) (RATIONAL 4 9))", false},
		{"(CONS BIT BIT)", "(OR (CONS (EQL 0)) (CONS * (EQL 1)) (CONS (EQL 1) (EQL 0)))", true},
	} {
		yes, x, e := types.Subtypep(lisp(c.a), lisp(c.b))
		if yes != c.want || e != api.OK || !yes && (!is(x, lisp(c.a)) || is(x, lisp(c.b))) || yes && x.Kind != 0 {
			t.Errorf("Subtypep(%s, %s) = %v, %v, %v", c.a, c.b, yes, x, e)
		}
	}
	yes, x, e := types.Empty(lisp("(AND INTEGER (NOT FIXNUM) (INTEGER 0 100))"))
	equal(t, "Empty", []any{yes, x, e}, []any{true, api.Form{}, 0})
	some, lo, hi, e := types.Integers(lisp("(OR (MOD 5) (EQL 9) STRING)"))
	equal(t, "Integers", []any{some, lo, hi, e}, []any{true, lisp("0"), lisp("9"), 0})
	x, e = types.Plus(lisp("(MOD 3)"), lisp("(INTEGER 5 *)"))
	equal(t, "Plus", []any{x, e}, []any{lisp("(INTEGER 5 *)"), 0})
	x, e = types.Times(lisp("(INTEGER -2 3)"), lisp("(INTEGER -1 4)"))
	equal(t, "Times", []any{x, e}, []any{lisp("(INTEGER -8 12)"), 0})
}

// P14.1: which forms are type specifiers.
func TestCheck(t *testing.T) {
	digits := strings.Repeat("7", 200)
	names := strings.Fields(typeNames)
	right := append(names, "(AND)", "(OR)", "(AND T)", "(OR NIL T BIT)", "(NOT (NOT T))", "(MEMBER)", "(MEMBER 1 :A #\\a 1.0 CAR NIL #C(1 2))", "(EQL 1/2)", "(EQL "+digits+")", "(EQL #C(1 "+digits+"))",
		"(INTEGER)", "(INTEGER *)", "(INTEGER 1)", "(INTEGER * 1)", "(INTEGER (1) (-5))", "(INTEGER 5 1)", "(RATIONAL 1/2 (2/3))", "(REAL 1.0 1/2)", "(FLOAT (1.0d0) 1/2)", "(SINGLE-FLOAT 1 2)", "(DOUBLE-FLOAT 1.0 *)", "(REAL)", "(FLOAT *)",
		"(UNSIGNED-BYTE 1)", "(UNSIGNED-BYTE 200)", "(SIGNED-BYTE 1)", "(SIGNED-BYTE 200)", "(MOD 1)", "(MOD 1000000000)", "(CONS)", "(CONS *)", "(CONS * *)", "(CONS BIT)", "(CONS * BIT)", "(CONS BIT *)",
		"(STRING 0)", "(STRING 50)", "(STRING *)", "(BIT-VECTOR 3)", "(SIMPLE-VECTOR *)", "(VECTOR * *)", "(VECTOR * 50)", "(ARRAY * *)", "(ARRAY * 0)", "(ARRAY * 4)", "(ARRAY * NIL)", "(ARRAY * (* 4 0 *))",
		"(CONS (CONS (CONS (CONS CONS CONS))))", "(CONS * (AND (CONS (NOT (CONS (OR (CONS BIT)))))))", "(OR "+strings.Repeat("T ", 97)+")")
	for _, s := range right {
		fails(t, short(s), types.Check(lisp(s)), api.OK)
	}
	wrong := []string{"FOO", ":T", "#:T", "*", "SIGNED-BYTE", "MOD", "AND", "1", "\"T\"", "#\\a", "#(T)", "#C(1 2)", "(T)", "(FOO)", "(LIST)", "(:AND)", "((AND))", "(1)", "(\"AND\")", "(SYMBOL)", "(BIT)", "(AND . T)", "(AND T . T)",
		"(AND FOO)", "(OR T 1)", "(NOT)", "(NOT T T)", "(NOT FOO)", "(EQL)", "(EQL 1 2)", "(EQL #:X)", "(EQL \"a\")", "(EQL (1))", "(EQL #(1))", "(MEMBER 1 #*01)", "(EQL " + digits + "7)", "(EQL #C(1 " + digits + "7))",
		"(INTEGER 1 2 3)", "(INTEGER 1.0)", "(INTEGER 1/2)", "(INTEGER (1/2))", "(INTEGER ())", "(INTEGER (1 2))", "(INTEGER ((1)))", "(INTEGER NIL)", "(INTEGER (*))", "(INTEGER :*)", "(INTEGER (1 . 2))", "(INTEGER " + digits + "7)", "(RATIONAL 1.0)", "(RATIONAL 0 1.0)", "(REAL #C(1 2))", "(REAL X)", "(REAL 1 2 3)", "(FLOAT \"1\")",
		"(UNSIGNED-BYTE)", "(UNSIGNED-BYTE 0)", "(UNSIGNED-BYTE 201)", "(UNSIGNED-BYTE *)", "(UNSIGNED-BYTE 1 2)", "(UNSIGNED-BYTE 1.0)", "(SIGNED-BYTE 0)", "(SIGNED-BYTE 201)", "(MOD 0)", "(MOD -1)", "(MOD 1000000001)", "(MOD 100000000000000000000)", "(MOD *)",
		"(CONS T T T)", "(CONS FOO)", "(CONS T FOO)", "(CONS :*)", "(STRING)", "(STRING 51)", "(STRING -1)", "(STRING 1 2)", "(STRING 1.0)", "(STRING X)", "(STRING \"5\")", "(MOD #*1)", "(ARRAY * (\"1\"))", "(BIT-VECTOR (1))", "(SIMPLE-VECTOR 51)", "(VECTOR)", "(VECTOR *)", "(VECTOR T 5)", "(VECTOR * 51)", "(VECTOR * 5 5)", "(VECTOR 5)", "(ARRAY)", "(ARRAY *)", "(ARRAY T 2)", "(ARRAY * 5)", "(ARRAY * -1)", "(ARRAY * (1 2 3 4 5))", "(ARRAY * (5))", "(ARRAY * (-1))", "(ARRAY * (1 . 2))", "(ARRAY * X)", "(ARRAY * 1 2)", "(ARRAY * 1.0)",
		"(CONS (CONS (CONS (CONS (CONS)))))", "(CONS * (AND (CONS (NOT (CONS (OR (CONS (CONS))))))))", "(OR " + strings.Repeat("T ", 98) + ")"}
	for _, s := range wrong {
		fails(t, short(s), types.Check(lisp(s)), types.ErrType)
	}
	equal(t, "ErrType", int(types.ErrType), 160)
	symbol := forms.Symbol("COMMON-LISP", "T")
	odd := []api.Form{{}, {Kind: api.FormLabel, Text: "0", Kids: []api.Form{symbol}}, {Kind: api.FormSymbol, Text: "T", Home: "COMMON-LISP", Kids: []api.Form{symbol}},
		forms.Call("EQL", []api.Form{{Kind: api.FormSingle, Text: "7f800000"}}), forms.Call("REAL", []api.Form{{Kind: api.FormDouble, Text: "7ff0000000000000"}}), forms.Call("EQL", []api.Form{{Kind: api.FormLabel, Text: "0", Kids: []api.Form{lisp("1")}}}),
		forms.Call("EQL", things("BUILTIN")), forms.Call("EQL", []api.Form{{Kind: api.FormRatio, Text: "2000000000000000000/2000000000000000002"}}), forms.Call("AND", []api.Form{{Kind: api.FormRef, Text: "0"}})}
	for _, x := range odd {
		fails(t, short(x), types.Check(x), types.ErrType)
	}
}

// P14.1, P14.2: Typep of all objects and many types.
func TestTypep(t *testing.T) {
	l := objects()
	check := func(of api.Form) {
		for _, x := range l {
			if got, want := typep(t, x, of), is(x, of); got != want {
				t.Fatalf("Typep(%s, %s) = %v", text(x), text(of), got)
			}
		}
	}
	for _, s := range strings.Fields(typeNames) {
		check(lisp(s))
	}
	r := rand.New(rand.NewSource(141))
	for range 50 {
		check(someType(r, 3, 3))
	}
	for _, s := range []string{"(UNSIGNED-BYTE 60)", "(SIGNED-BYTE 61)", "(SIGNED-BYTE 200)", "(REAL (0) (0))", "(FLOAT 0 0)", "(EQL -0.0)", "(MOD 100)", "(VECTOR * 2)", "(ARRAY * (* 2))"} {
		check(lisp(s))
	}
}

// P14.1: the error of an object comes ahead of that of a type.
func TestObjectErrors(t *testing.T) {
	wrong := lisp("FOO")
	label := api.Form{Kind: api.FormLabel, Text: "0", Kids: []api.Form{lisp("(A)")}}
	for _, c := range []struct {
		what string
		x    api.Form
		want api.Errno
	}{
		{"no form", api.Form{}, api.ErrForm},
		{"a reference", api.Form{Kind: api.FormRef, Text: "0"}, forms.ErrLabel},
		{"a label", label, api.ErrForm},
		{"a label in a list", forms.List([]api.Form{label}), api.ErrForm},
		{"an infinity", forms.List([]api.Form{{Kind: api.FormSingle, Text: "7f800000"}}), api.ErrForm},
		{"a ratio that is not in lowest terms", api.Form{Kind: api.FormRatio, Text: "2000000000000000000/2000000000000000002"}, api.ErrForm},
		{"no number in a complex one", api.Form{Kind: api.FormComplex, Kids: []api.Form{{Kind: api.FormDouble, Text: "7ff0000000000000"}, {Kind: api.FormDouble, Text: "0000000000000000"}}}, api.ErrForm},
		{"too many nodes", api.Form{Kind: api.FormVector, Kids: make([]api.Form, 2000)}, api.ErrSize},
		{"an object", lisp("1"), types.ErrType},
	} {
		yes, e := types.Typep(c.x, wrong)
		equal(t, "Typep of "+c.what, []any{yes, e}, []any{false, c.want})
		if of, e := types.Of(c.x); c.want != types.ErrType && (e != c.want || of.Kind != 0) {
			t.Errorf("Of %s: %v, %v; want %v", c.what, of, e, c.want)
		}
	}
}

// P14.1: the errors of types.
func TestTypeErrors(t *testing.T) {
	right, wrong := lisp("INTEGER"), lisp("FOO")
	for _, c := range [][2]api.Form{{wrong, right}, {right, wrong}} {
		yes, x, e := types.Subtypep(c[0], c[1])
		equal(t, "Subtypep", []any{yes, x, e}, []any{false, api.Form{}, 160})
		x, e = types.Plus(c[0], c[1])
		equal(t, "Plus", []any{x, e}, []any{api.Form{}, 160})
		x, e = types.Times(c[0], c[1])
		equal(t, "Times", []any{x, e}, []any{api.Form{}, 160})
		l, e := types.Samples([]api.Form{c[0], c[1]})
		equal(t, "Samples", []any{l, e}, []any{[]api.Form{}, 160})
	}
	yes, x, e := types.Empty(wrong)
	equal(t, "Empty", []any{yes, x, e}, []any{false, api.Form{}, 160})
	some, lo, hi, e := types.Integers(wrong)
	equal(t, "Integers", []any{some, lo, hi, e}, []any{false, api.Form{}, api.Form{}, 160})
	_, e = types.Samples([]api.Form{wrong, right, right, right, right, right, right})
	fails(t, "Samples of seven", e, api.ErrSize)
	_, e = types.Samples([]api.Form{right, right, right, right, right, right})
	fails(t, "Samples of six", e, api.OK)
}

// P14.1: And, Or and Not make lists of any forms.
func TestMakers(t *testing.T) {
	l := all("T (1 . 2)")
	equal(t, "And", types.And(l), lisp("(AND T (1 . 2))"))
	equal(t, "Or", types.Or(nil), lisp("(OR)"))
	equal(t, "Or", types.Or(l), lisp("(OR T (1 . 2))"))
	x := types.Not(l[1])
	equal(t, "Not", x, lisp("(NOT (1 . 2))"))
	x.Kids[1].Kids[0] = lisp("9")
	equal(t, "the argument of Not", l[1], lisp("(1 . 2)"))
}

// P14.2, P14.3: what Subtypep and Empty say is so for all objects, and their witnesses are right.
func TestSubtypep(t *testing.T) {
	r := rand.New(rand.NewSource(142))
	l := objects()
	counts := map[bool]int{}
	for range 800 {
		a, b := someType(r, 1+r.Intn(3), 2), someType(r, 1+r.Intn(3), 2)
		yes, x, e := types.Subtypep(a, b)
		what := fmt.Sprintf("Subtypep(%s, %s) = %v, %s, %v", text(a), text(b), yes, text(x), e)
		counts[yes]++
		if e != api.OK || !yes && (!is(x, a) || is(x, b)) || yes && x.Kind != 0 {
			t.Fatal(what)
		}
		if _, e := types.Typep(x, a); !yes && e != api.OK {
			t.Fatalf("%s: the witness is %v", what, e)
		}
		if yes {
			for _, y := range l {
				if is(y, a) && !is(y, b) {
					t.Fatalf("%s: but %s", what, text(y))
				}
			}
		}
		both := types.And([]api.Form{a, types.Not(b)})
		if types.Check(both) != api.OK {
			continue // it is too large
		}
		empty, x, e := types.Empty(both)
		if e != api.OK || empty != yes || !empty && (!is(x, a) || is(x, b)) {
			t.Fatalf("%s, and Empty says %v, %s, %v", what, empty, text(x), e)
		}
	}
	if counts[true] < 100 || counts[false] < 100 {
		t.Errorf("%v: too few of one sort", counts)
	}
}

// P14.2: Subtypep is an order, from NIL to T.
func TestOrder(t *testing.T) {
	r := rand.New(rand.NewSource(143))
	part := func(a, b api.Form) bool {
		yes, _, e := types.Subtypep(a, b)
		fails(t, "Subtypep", e, api.OK)
		return yes
	}
	for range 400 {
		var l []api.Form
		for range 3 {
			l = append(l, someType(r, 1, 2))
		}
		a, b, c := l[0], l[1], l[2]
		if !part(a, a) || !part(lisp("NIL"), a) || !part(a, lisp("T")) {
			t.Errorf("%s is not between NIL and T", text(a))
		}
		if part(a, b) && part(b, c) && !part(a, c) {
			t.Errorf("not transitive: %s, %s, %s", text(a), text(b), text(c))
		}
		if !part(types.And(l), a) || !part(a, types.Or(l)) || !part(a, types.Not(types.Not(a))) || !part(types.Not(types.Not(a)), a) {
			t.Errorf("AND, OR or NOT of %s", text(types.And(l)))
		}
	}
}

// P14.1: pairs of types that depend on more than a few objects.
func TestParts(t *testing.T) {
	for _, c := range []struct {
		a, b string
		want bool
	}{
		{"NIL", "NIL", true}, {"T", "NIL", false}, {"T", "(OR ATOM CONS)", true}, {"NULL", "BOOLEAN", true}, {"BOOLEAN", "(OR NULL (EQL T))", true}, {"KEYWORD", "SYMBOL", true}, {"KEYWORD", "(MEMBER :A :B :K0 :K1)", false}, {"SYMBOL", "(OR KEYWORD (MEMBER CAR) BOOLEAN)", false},
		{"CHARACTER", "(MEMBER #\\a #\\b #\\c)", false}, {"COMPLEX", "(MEMBER #C(0 1) #C(1 1) #C(2 1))", false}, {"NUMBER", "(OR REAL COMPLEX)", true}, {"REAL", "(OR RATIONAL FLOAT)", true}, {"RATIONAL", "(OR INTEGER RATIO)", true}, {"INTEGER", "(OR FIXNUM BIGNUM)", true}, {"FIXNUM", "(SIGNED-BYTE 61)", true}, {"(SIGNED-BYTE 61)", "FIXNUM", true}, {"BIGNUM", "(NOT (SIGNED-BYTE 60))", true}, {"(SIGNED-BYTE 62)", "FIXNUM", false},
		{"BIT", "(MEMBER 0 1)", true}, {"(MEMBER 0 1)", "BIT", true}, {"UNSIGNED-BYTE", "(INTEGER 0)", true}, {"(UNSIGNED-BYTE 200)", "(INTEGER 0 1606938044258990275541962092341162602522202993782792835301375)", true}, {"(UNSIGNED-BYTE 200)", "(INTEGER 0 1606938044258990275541962092341162602522202993782792835301374)", false}, {"(INTEGER (0) (1))", "NIL", true}, {"(RATIONAL (0) (1))", "RATIO", true}, {"(RATIONAL (0) (1))", "NIL", false}, {"(RATIO)", "NIL", false},
		{"(INTEGER 0 10)", "(MEMBER 0 1 2 3 4 5 6 7 8 9 10)", true}, {"(INTEGER 0 10)", "(MEMBER 0 1 2 3 4 5 6 7 8 9)", false}, {"(REAL 0 0)", "(MEMBER 0 0.0 -0.0 0.0d0 -0.0d0)", true}, {"(FLOAT 0 0)", "(MEMBER 0.0 0.0d0)", false}, {"(SINGLE-FLOAT (0) (1.0e-45))", "NIL", true}, {"(DOUBLE-FLOAT (0) (1.0e-45))", "NIL", false}, {"(SINGLE-FLOAT 1/3 1/3)", "NIL", true}, {"(SINGLE-FLOAT 0.1 0.1)", "(EQL 0.1)", true}, {"(DOUBLE-FLOAT 0.1 0.1)", "NIL", false}, {"(SINGLE-FLOAT 0.1d0 0.1d0)", "NIL", true},
		{"(SINGLE-FLOAT 340282346638528859811704183484516925440)", "(EQL 3.4028235e38)", true}, {"(SINGLE-FLOAT (340282346638528859811704183484516925440))", "NIL", true}, {"(SINGLE-FLOAT 1000000000000000000000000000000000000000)", "NIL", true}, {"(SINGLE-FLOAT * -1000000000000000000000000000000000000000)", "NIL", true}, {"(SINGLE-FLOAT -1000000000000000000000000000000000000000)", "SINGLE-FLOAT", true}, {"SINGLE-FLOAT", "(SINGLE-FLOAT -1000000000000000000000000000000000000000 1000000000000000000000000000000000000000)", true}, {"SINGLE-FLOAT", "(SINGLE-FLOAT -340282346638528859811704183484516925440 340282346638528859811704183484516925440)", true}, {"DOUBLE-FLOAT", "(DOUBLE-FLOAT -1.7976931348623157d308 1.7976931348623157d308)", true}, {"DOUBLE-FLOAT", "(DOUBLE-FLOAT -1.7976931348623157d308 (1.7976931348623157d308))", false}, {"DOUBLE-FLOAT", "(DOUBLE-FLOAT (-1.7976931348623157d308))", false},
		{"(RATIONAL 1/2 1/2)", "NIL", false}, {"(RATIONAL 1/2 1/2)", "(EQL 1/2)", true}, {"(RATIONAL 1/2)", "(RATIONAL (1/2))", false}, {"(AND RATIO (RATIONAL * (-5)))", "NIL", false}, {"(AND RATIO (RATIONAL (5)))", "NIL", false}, {"(AND RATIO (RATIONAL 5 6))", "NIL", false}, {"(SINGLE-FLOAT (0) 1.0e-45)", "NIL", false}, {"(SINGLE-FLOAT * (-5))", "NIL", false}, {"(DOUBLE-FLOAT (5) *)", "NIL", false}, {"(SINGLE-FLOAT (1) (1.0000002))", "NIL", false}, {"(SINGLE-FLOAT (1) (1.0000002))", "(EQL 1.0000001)", true}, {"(SINGLE-FLOAT (1) (1.0000001))", "NIL", true}, {"(DOUBLE-FLOAT (-1.0000002) (-1))", "(SINGLE-FLOAT)", false},
		{"VECTOR", "(ARRAY * 1)", true}, {"(ARRAY * 1)", "VECTOR", true}, {"(ARRAY * (2))", "(VECTOR * 2)", true}, {"(STRING 2)", "(ARRAY * (2))", true}, {"(ARRAY * (3))", "(OR (STRING 3) (BIT-VECTOR 3) (SIMPLE-VECTOR 3))", true}, {"ARRAY", "(OR VECTOR (ARRAY * 0) (ARRAY * 2) (ARRAY * 3) (ARRAY * 4))", false}, {"(ARRAY * 0)", "(ARRAY * NIL)", true}, {"(ARRAY * (* *))", "(ARRAY * 2)", true}, {"(ARRAY * 2)", "(OR (ARRAY * (0 *)) (ARRAY * (1 *)) (ARRAY * (2 *)) (ARRAY * (3 *)) (ARRAY * (4 *)))", false}, {"(ARRAY * (1 *))", "(OR (ARRAY * (1 0)) (ARRAY * (* 1)) (ARRAY * (1 2)) (ARRAY * (* 3)) (ARRAY * (1 4)))", false}, {"(ARRAY * (1 2))", "(AND (ARRAY * (1 *)) (ARRAY * (* 2)))", true}, {"(AND (ARRAY * (1 *)) (ARRAY * (* 2)))", "(ARRAY * (1 2))", true}, {"STRING", "(OR (STRING 0) (STRING 1) (STRING 50))", false},
		{"SEQUENCE", "(OR LIST VECTOR)", true}, {"FUNCTION", "ATOM", true}, {"ATOM", "(OR SYMBOL NUMBER CHARACTER ARRAY FUNCTION HASH-TABLE)", false}, {"LIST", "(OR NULL (CONS T T))", true}, {"(CONS NIL)", "NIL", true}, {"(CONS * NIL)", "NIL", true}, {"CONS", "(CONS * *)", true}, {"(CONS BIT (CONS BIT))", "(CONS (OR (EQL 0) (EQL 1)) CONS)", true},
		{"(CONS (OR NULL BIT) (OR NULL BIT))", "(OR (CONS NULL NULL) (CONS BIT BIT))", false}, {"(OR (CONS NULL NULL) (CONS BIT BIT))", "(CONS (OR NULL BIT) (OR NULL BIT))", true}, {"(NOT (CONS NULL))", "(OR ATOM (CONS (NOT NULL)))", true}, {"(CONS (INTEGER 0 2) (INTEGER 0 2))", "(OR (CONS (INTEGER 0 1)) (CONS * (INTEGER 1 2)) (CONS (EQL 2) (EQL 0)))", true}, {"(CONS (INTEGER 0 2) (INTEGER 0 2))", "(OR (CONS (INTEGER 0 1)) (CONS * (INTEGER 1 2)))", false},
		{"(CONS (CONS (CONS (CONS BIT))))", "(CONS (CONS (CONS (CONS (INTEGER 0 1)))))", true}, {"(CONS (CONS (CONS (CONS FIXNUM))))", "(CONS (CONS (CONS (CONS BIT))))", false}, {"(CONS * (CONS * (CONS * (CONS * BIT))))", "(NOT (CONS * (CONS * (CONS * (CONS * (NOT BIT))))))", true},
	} {
		a, b := lisp(c.a), lisp(c.b)
		if c.a == "(RATIO)" {
			a = lisp("(AND RATIO (RATIONAL (0) (1/1000000)))")
		}
		yes, x, e := types.Subtypep(a, b)
		if yes != c.want || e != api.OK || !yes && (!is(x, a) || is(x, b)) {
			t.Errorf("Subtypep(%s, %s) = %v, %s, %v", c.a, c.b, yes, text(x), e)
		}
	}
}

// P14.1: large types with CONS inside of CONS are decided, too.
func TestLarge(t *testing.T) {
	r := rand.New(rand.NewSource(144))
	leaf := func() string {
		return anyOf(r, "BIT FIXNUM NULL SYMBOL LIST STRING RATIO FLOAT KEYWORD FUNCTION CONS ATOM INTEGER")
	}
	var path, tree func(depth int) string
	path = func(depth int) string {
		if depth == 0 {
			return leaf()
		}
		return "(CONS " + []string{"", "* "}[r.Intn(2)] + path(depth-1) + ")"
	}
	tree = func(depth int) string {
		if depth == 0 || r.Intn(5) == 0 {
			return leaf()
		}
		return "(CONS " + tree(depth-1) + " " + tree(depth-1) + ")"
	}
	union := func() api.Form {
		s := ""
		for {
			part := path(4)
			if r.Intn(2) == 0 {
				part = tree(1 + r.Intn(4))
			}
			if r.Intn(3) == 0 {
				part = "(NOT " + part + ")"
			}
			if types.Check(lisp("(OR "+s+part+")")) != api.OK {
				return lisp("(OR " + s + ")")
			}
			s += part + " "
		}
	}
	for range 30 {
		var l []api.Form
		for range 6 {
			l = append(l, union())
		}
		samples, e := types.Samples(l)
		fails(t, "Samples", e, api.OK)
		met := map[string]bool{}
		for _, x := range samples {
			key := ""
			for _, of := range l {
				key += fmt.Sprint(is(x, of))
			}
			if met[key] {
				t.Errorf("two samples of one class")
			}
			met[key] = true
		}
		yes, x, e := types.Subtypep(l[0], l[1])
		if e != api.OK || !yes && (!is(x, l[0]) || is(x, l[1])) {
			t.Errorf("Subtypep = %v, %s, %v", yes, text(x), e)
		}
	}
	dims := ""
	for i := range 9 {
		d := fmt.Sprint(i % 5)
		dims += "(ARRAY * (" + []string{d + " * * *", "* " + d + " * *", "* * " + d + " *", "* * * " + d}[i%4] + ")) "
	}
	yes, x, e := types.Subtypep(lisp("(ARRAY * 4)"), lisp("(OR "+dims+")"))
	if yes || e != api.OK || is(x, lisp("(OR "+dims+")")) {
		t.Errorf("Subtypep of arrays = %v, %s, %v", yes, text(x), e)
	}
}

// P14.1: of two combinations of types that differ, Samples have an object of just one.
func TestSamples(t *testing.T) {
	r := rand.New(rand.NewSource(145))
	l := objects()
	for range 60 {
		var of []api.Form
		for range r.Intn(7) {
			of = append(of, someType(r, 1+r.Intn(2), 2))
		}
		samples, e := types.Samples(of)
		fails(t, "Samples", e, api.OK)
		met := map[string]bool{}
		answers := func(x api.Form) string {
			s := ""
			for _, t := range of {
				s += fmt.Sprint(is(x, t), " ")
			}
			return s
		}
		for _, x := range samples {
			met[answers(x)] = true
			if _, e := types.Typep(x, lisp("T")); e != api.OK {
				t.Errorf("the sample %s: %v", text(x), e)
			}
		}
		// combinations differ in an object just if they differ in all objects of the same answers
		for _, x := range l {
			if !met[answers(x)] {
				t.Fatalf("no sample is like %s in %s", text(x), text(forms.List(of)))
			}
		}
	}
}

// P14.3: a result shares no memory with an argument.
func TestMemory(t *testing.T) {
	a := lisp("(EQL #C(1 2))")
	_, x, _ := types.Empty(a)
	x.Kids[0] = lisp("9")
	_, x, _ = types.Subtypep(a, lisp("NIL"))
	x.Kids[0] = lisp("9")
	equal(t, "the type", a, lisp("(EQL #C(1 2))"))
	y := lisp("#C(1 2)")
	of, _ := types.Of(y)
	of.Kids[1].Kids[0] = lisp("9")
	equal(t, "the object", y, lisp("#C(1 2)"))
}
