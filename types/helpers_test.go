package types_test

import (
	"fmt"
	"math/big"
	"math/rand"
	"slices"
	"strings"
	"testing"
	"unicode/utf8"

	"commonform/api"
	"commonform/forms"
	"commonform/number"
	"commonform/reader"
	"commonform/types"
)

// lisp reads a form, whose symbols are those of COMMON-LISP.
func lisp(s string) api.Form {
	x, at, e := reader.One(reader.Standard("COMMON-LISP"), s)
	if e != api.OK {
		panic(fmt.Sprint(s, at, e))
	}
	return x.Form
}

// all reads several forms.
func all(s string) []api.Form {
	l, _ := forms.Items(lisp("(" + s + ")"))
	return l
}

func things(names ...string) []api.Form {
	var l []api.Form
	for _, s := range names {
		l = append(l, forms.Symbol("%", s))
	}
	return l
}

func fails(t *testing.T, what string, got, want api.Errno) {
	t.Helper()
	if got != want {
		t.Errorf("%s: %v; want %v", what, got, want)
	}
}

func short(x any) string { return fmt.Sprintf("%.300s", fmt.Sprint(x)) }

func equal(t *testing.T, what string, got, want any) {
	t.Helper()
	if fmt.Sprint(got) != fmt.Sprint(want) {
		t.Errorf("%s = %s; want %s", what, short(got), short(want))
	}
}

// text returns a text of a form for messages, and to compare forms.
func text(x api.Form) string {
	switch x.Kind {
	case api.FormCons, api.FormVector, api.FormArray, api.FormComplex:
		var l []string
		for _, kid := range x.Kids {
			l = append(l, text(kid))
		}
		return fmt.Sprint(x.Kind, x.Text, "(", strings.Join(l, " "), ")")
	case api.FormSymbol:
		return x.Home + ":" + x.Text
	}
	return fmt.Sprint(x.Kind, "'", x.Text)
}

func rat(x api.Form) *big.Rat {
	exact, e := number.Rational(x)
	if e != api.OK {
		return nil
	}
	n, _ := new(big.Rat).SetString(exact.Text)
	return n
}

// is says whether an object is of a type, by the words of the chapter.
func is(x, t api.Form) bool {
	if t.Kind == api.FormSymbol {
		return isNamed(x, t.Text)
	}
	l, _ := forms.Items(t)
	name := l[0].Text
	l = l[1:]
	some := func(f func(t api.Form) bool) bool { return slices.ContainsFunc(l, f) }
	switch name {
	case "AND":
		return !some(func(t api.Form) bool { return !is(x, t) })
	case "OR":
		return some(func(t api.Form) bool { return is(x, t) })
	case "NOT":
		return !is(x, l[0])
	case "MEMBER", "EQL":
		return some(func(y api.Form) bool { return forms.Equal(x, y) })
	case "CONS":
		elements, tail := forms.Spread(x)
		if len(elements) == 0 {
			return false
		}
		parts := []api.Form{elements[0], forms.Dotted(elements[1:], tail)}
		for i, t := range l {
			if !forms.Is(t, "COMMON-LISP", "*") && !is(parts[i], t) {
				return false
			}
		}
		return true
	case "UNSIGNED-BYTE", "SIGNED-BYTE", "MOD":
		return isNamed(x, "INTEGER") && inSize(rat(x).Num(), name, rat(l[0]).Num())
	case "STRING", "BIT-VECTOR", "SIMPLE-VECTOR":
		return isNamed(x, name) && fits(sizes(x)[0], l[0])
	case "VECTOR":
		return isNamed(x, name) && fits(sizes(x)[0], l[1])
	case "ARRAY":
		return isNamed(x, name) && fitsAll(sizes(x), l[1])
	}
	return isNamed(x, name) && inBounds(rat(x), l)
}

func inSize(x *big.Int, name string, n *big.Int) bool {
	low, high := big.NewInt(0), n
	if name != "MOD" {
		high = new(big.Int).Lsh(big.NewInt(1), uint(n.Int64()))
	}
	if name == "SIGNED-BYTE" {
		high.Rsh(high, 1)
		low = new(big.Int).Neg(high)
	}
	return x.Cmp(low) >= 0 && x.Cmp(high) < 0
}

func inBounds(x *big.Rat, l []api.Form) bool {
	for i, b := range l {
		if b.Kind == api.FormSymbol {
			continue
		}
		open := b.Kind == api.FormCons
		if open {
			b = b.Kids[0]
		}
		side := x.Cmp(rat(b))
		if i == 1 {
			side = -side
		}
		if side < 0 || side == 0 && open {
			return false
		}
	}
	return true
}

func sizes(x api.Form) []int {
	if x.Kind == api.FormString {
		return []int{utf8.RuneCountInString(x.Text)}
	}
	dims, e := forms.Dimensions(x)
	if e != api.OK {
		panic(text(x))
	}
	return dims
}

func fits(n int, d api.Form) bool { return d.Kind == api.FormSymbol || d.Text == fmt.Sprint(n) }

func fitsAll(dims []int, d api.Form) bool {
	if d.Kind == api.FormInt {
		return d.Text == fmt.Sprint(len(dims))
	}
	l, ok := forms.Items(d)
	if !ok {
		return true // *
	}
	if len(l) != len(dims) {
		return false
	}
	for i, n := range dims {
		if !fits(n, l[i]) {
			return false
		}
	}
	return true
}

// isNamed says whether an object is of a type that has a name.
func isNamed(x api.Form, name string) bool {
	symbol := x.Kind == api.FormSymbol && x.Home != "%"
	thing := ""
	if x.Kind == api.FormSymbol && x.Home == "%" {
		thing = x.Text
	}
	vector := x.Kind == api.FormString || x.Kind == api.FormBits || x.Kind == api.FormVector
	bounded := func(low, high string) bool {
		return x.Kind == api.FormInt && inBounds(rat(x), all(low+" "+high))
	}
	switch name {
	case "T":
		return true
	case "NIL":
		return false
	case "CONS":
		return x.Kind == api.FormCons
	case "ATOM":
		return x.Kind != api.FormCons
	case "NULL":
		return forms.IsNil(x)
	case "LIST":
		return x.Kind == api.FormCons || forms.IsNil(x)
	case "SYMBOL":
		return symbol
	case "KEYWORD":
		return symbol && x.Home == "KEYWORD"
	case "BOOLEAN":
		return forms.IsNil(x) || forms.Is(x, "COMMON-LISP", "T")
	case "NUMBER":
		return forms.Number(x)
	case "REAL":
		return forms.Number(x) && x.Kind != api.FormComplex
	case "RATIONAL":
		return x.Kind == api.FormInt || x.Kind == api.FormRatio
	case "FLOAT":
		return x.Kind == api.FormSingle || x.Kind == api.FormDouble
	case "BIT":
		return bounded("0", "1")
	case "FIXNUM":
		return bounded("-1152921504606846976", "1152921504606846975")
	case "BIGNUM":
		return x.Kind == api.FormInt && !isNamed(x, "FIXNUM")
	case "UNSIGNED-BYTE":
		return bounded("0", "*")
	case "VECTOR":
		return vector
	case "ARRAY":
		return vector || x.Kind == api.FormArray
	case "SEQUENCE":
		return vector || isNamed(x, "LIST")
	case "FUNCTION":
		return thing == "BUILTIN" || thing == "CLOSURE"
	case "HASH-TABLE":
		return thing == "TABLE"
	}
	kinds := map[string]int{"INTEGER": api.FormInt, "RATIO": api.FormRatio, "SINGLE-FLOAT": api.FormSingle, "DOUBLE-FLOAT": api.FormDouble, "COMPLEX": api.FormComplex, "CHARACTER": api.FormChar, "STRING": api.FormString, "BIT-VECTOR": api.FormBits, "SIMPLE-VECTOR": api.FormVector}
	kind, known := kinds[name]
	if !known {
		panic(name)
	}
	return x.Kind == kind
}

// atoms returns objects that are no conses: for each type of anyType some that are of it, and some that are not.
func atoms() []api.Form {
	l := all(`NIL T :A :B #:X CAR LIST 0 1 2 3 4 5 6 7 -1 -2 -3 100 255 256 -128 -129 127 128 1/2 -1/2 1/3 3/2 5/2 7/2 9/2 -7/2 13/2
		0.0 -0.0 0.0d0 -0.0d0 0.5 0.5d0 1.0 1.0d0 3.0 3.0d0 3.5 4.0 4.5 4.5d0 -1.0 -2.5d0 -1.0e30 1.0e30 1.0d100 -1.0d100 #C(1 1) #C(0 1) #C(1.0 0.0) #C(1/2 3)
		#\a #\b #\z "" "a" "ab" "éé" "abc" "abcd" #* #*0 #*01 #*0101 #() #(1) #(1 2) #(1 2 3 4) #0A1 #2A() #2A((1)) #2A((1 2)) #2A((1) (2)) #2A((1 2 3) (4 5 6)) #3A() #3A(((1))) #5A()
		1152921504606846975 1152921504606846976 -1152921504606846976 -1152921504606846977 1/1152921504606846977 12345678901234567890`)
	for _, dims := range []string{"0 1", "1 0", "0 3", "1 1 2", "2 1 1", "0 0 0 4", "0 1 2 3 4", "5 0 0 0 0 0 0", "0 2000"} {
		l = append(l, arrayOf(dims))
	}
	// floats next to bounds
	for _, kind := range []int{api.FormSingle, api.FormDouble} {
		for _, hex := range []string{"3effffff 3f000001 3f7fffff 3f800001 403fffff 40400001 00000001 80000001", "3fdfffffffffffff 3fe0000000000001 3fefffffffffffff 3ff0000000000001 4007ffffffffffff 4008000000000001 0000000000000001 8000000000000001"}[kind-api.FormSingle : kind-api.FormSingle+1] {
			for _, bits := range strings.Fields(hex) {
				l = append(l, api.Form{Kind: kind, Text: bits})
			}
		}
	}
	return append(l, things("BUILTIN", "CLOSURE", "TABLE", "STREAM", "")...)
}

func arrayOf(dims string) api.Form {
	n := 1
	for _, d := range strings.Fields(dims) {
		k, _ := new(big.Int).SetString(d, 10)
		n *= int(k.Int64())
	}
	return api.Form{Kind: api.FormArray, Text: dims, Kids: slices.Repeat(all("0"), n)}
}

// conses returns conses of some objects, and conses of these.
func conses() []api.Form {
	parts := all(`NIL T :A 0 1 2 5 1/2 0.0 1.0 #\a "ab" #() #C(1 1) X 12345678901234567890`)
	var first, second []api.Form
	for _, a := range parts {
		for _, d := range parts {
			first = append(first, forms.Dotted([]api.Form{a}, d))
		}
	}
	for i := 0; i < len(first); i += 7 {
		for _, d := range parts[:8] {
			second = append(second, forms.Dotted([]api.Form{first[i]}, d), forms.Dotted([]api.Form{d}, first[(i*3+1)%len(first)]))
		}
		second = append(second, forms.Dotted([]api.Form{first[i]}, first[i*5%len(first)]))
	}
	return append(first, second...)
}

func objects() []api.Form { return append(atoms(), conses()...) }

// typeNames are all names of types.
const typeNames = "T NIL ATOM CONS NULL LIST SYMBOL KEYWORD BOOLEAN NUMBER REAL RATIONAL INTEGER RATIO FLOAT SINGLE-FLOAT DOUBLE-FLOAT COMPLEX BIT FIXNUM BIGNUM UNSIGNED-BYTE CHARACTER STRING BIT-VECTOR SIMPLE-VECTOR VECTOR ARRAY SEQUENCE FUNCTION HASH-TABLE"

func anyOf(r *rand.Rand, words string) string {
	l := strings.Fields(words)
	return l[r.Intn(len(l))]
}

func anyBound(r *rand.Rand, words string) string {
	b := anyOf(r, words)
	if r.Intn(3) == 0 && b != "*" {
		return "(" + b + ")"
	}
	return b
}

// anyType returns the text of a type with at most so many CONS inside of one another.
func anyType(r *rand.Rand, depth, conses int) string {
	if depth == 0 {
		return anyLeaf(r)
	}
	part := func() string { return anyType(r, depth-1, conses) }
	switch r.Intn(7) {
	case 0:
		return "(AND " + part() + " " + part() + ")"
	case 1:
		return "(OR " + part() + " " + part() + ")"
	case 2:
		return "(NOT " + part() + ")"
	case 3:
		return "(OR " + part() + " " + part() + " (AND " + part() + " (NOT " + part() + ")))"
	case 4, 5:
		if conses == 0 {
			return anyLeaf(r)
		}
		parts := []string{"", "*", "* " + anyType(r, depth-1, conses-1), anyType(r, depth-1, conses-1), anyType(r, depth-1, conses-1) + " " + anyType(r, depth-1, conses-1)}
		return "(CONS " + parts[r.Intn(len(parts))] + ")"
	}
	return anyLeaf(r)
}

func anyLeaf(r *rand.Rand) string {
	integers := "* 0 1 3 -1 4"
	switch r.Intn(12) {
	case 0:
		return "(EQL " + anyOf(r, `0 1 3 1/2 0.0 -0.0 1.0 0.0d0 3.0d0 NIL T :A CAR #\a #C(1_1)`) + ")"
	case 1:
		return "(MEMBER " + anyOf(r, `0 1 3 1/2 :A`) + " " + anyOf(r, `0.0 NIL T :B #\b #C(1.0_0.0)`) + ")"
	case 2:
		return "(INTEGER " + anyBound(r, integers) + " " + anyBound(r, integers) + ")"
	case 3:
		return "(RATIONAL " + anyBound(r, integers+" 1/2 7/2") + ")"
	case 4:
		return "(" + anyOf(r, "REAL FLOAT SINGLE-FLOAT DOUBLE-FLOAT") + " " + anyBound(r, integers+" 1/2 0.5 3.0d0 -0.0") + " " + anyBound(r, integers+" 1/2 0.5 3.0d0 0.0") + ")"
	case 5:
		return anyOf(r, "(UNSIGNED-BYTE_8) (SIGNED-BYTE_8) (MOD_3) (UNSIGNED-BYTE_1) (SIGNED-BYTE_1) (MOD_1)")
	case 6:
		return anyOf(r, "(STRING_2) (STRING_*) (BIT-VECTOR_0) (SIMPLE-VECTOR_1) (VECTOR_*_4) (VECTOR_*_*) (ARRAY_*_*) (ARRAY_*_0) (ARRAY_*_1) (ARRAY_*_2) (ARRAY_*_4) (ARRAY_*_NIL) (ARRAY_*_(2)) (ARRAY_*_(*_1)) (ARRAY_*_(0_*)) (ARRAY_*_(1_2)) (ARRAY_*_(*_*_*))")
	}
	return anyOf(r, typeNames)
}

// someType returns a type of anyType that is not too large.
func someType(r *rand.Rand, depth, conses int) api.Form {
	for {
		t := lisp(strings.ReplaceAll(anyType(r, depth, conses), "_", " "))
		if nodes, _ := forms.Size(t); nodes <= 100 {
			return t
		}
	}
}

// typep calls Typep, which may have no error.
func typep(t *testing.T, x, of api.Form) bool {
	t.Helper()
	yes, e := types.Typep(x, of)
	if e != api.OK {
		t.Fatalf("Typep(%s, %s): %v", short(text(x)), short(text(of)), e)
	}
	return yes
}
