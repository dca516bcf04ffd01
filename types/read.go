package types

import (
	"strconv"

	"commonform/api"
	"commonform/forms"
	"commonform/number"
)

// wrong is what the reading of a type specifier panics with.
type wrong struct{}

// must ends the reading of a form that is no type specifier.
func must(right bool) {
	if !right {
		panic(wrong{})
	}
}

// reader reads a type specifier.
type reader struct{ names map[string]int }

// read returns the type of a specifier.
func read(t api.Form) (s spec, e api.Errno) {
	defer func() {
		if recover() != nil {
			s, e = spec{}, ErrType
		}
	}()
	must(forms.Check(t) == api.OK)
	nodes, _ := forms.Size(t)
	must(nodes <= maxNodes)
	return reader{names()}.spec(t, 0), api.OK
}

// spec reads a type that stands in so many CONS.
func (r reader) spec(t api.Form, conses int) spec {
	if t.Kind == api.FormSymbol {
		s, known := r.named(t.Text)
		must(known && t.Home == lisp)
		return s
	}
	l, proper := forms.Items(t)
	must(proper && l[0].Kind == api.FormSymbol && l[0].Home == lisp)
	return r.compound(l[0].Text, l[1:], conses)
}

// named returns the type with a name, and whether there is one.
func (r reader) named(name string) (spec, bool) {
	switch name {
	case "BIT":
		return integersBetween(closed(whole(0)), closed(whole(1))), true
	case "UNSIGNED-BYTE":
		return integersBetween(closed(whole(0)), bound{}), true
	case "FIXNUM":
		return signedBytes(61), true
	case "BIGNUM":
		return spec{kind: ofAll, kids: []spec{sorted(isInteger), opposite(signedBytes(61))}}, true
	}
	sorts, known := r.names[name]
	return sorted(sorts), known
}

func (r reader) compound(name string, l []api.Form, conses int) spec {
	switch name {
	case "AND":
		return spec{kind: ofAll, kids: r.specs(l, conses)}
	case "OR":
		return spec{kind: ofOne, kids: r.specs(l, conses)}
	case "NOT":
		must(len(l) == 1)
		return opposite(r.spec(l[0], conses))
	case "MEMBER":
		return readMembers(l)
	case "EQL":
		must(len(l) == 1)
		return readMembers(l)
	case "INTEGER":
		return readBounds(isInteger, isInteger, l)
	case "RATIONAL":
		return readBounds(rationals, rationals, l)
	case "REAL":
		return readBounds(reals, reals, l)
	case "FLOAT":
		return readBounds(floats, reals, l)
	case "SINGLE-FLOAT":
		return readBounds(isSingle, reals, l)
	case "DOUBLE-FLOAT":
		return readBounds(isDouble, reals, l)
	case "UNSIGNED-BYTE":
		return integersBetween(closed(whole(0)), closed(powerOfTwo(readSize(l, 200), -1)))
	case "SIGNED-BYTE":
		return signedBytes(readSize(l, 200))
	case "MOD":
		return integersBetween(closed(whole(0)), closed(whole(readSize(l, 1e9)-1)))
	case "CONS":
		return r.cons(l, conses)
	case "STRING":
		return readLength(isString, l)
	case "BIT-VECTOR":
		return readLength(isBits, l)
	case "SIMPLE-VECTOR":
		return readLength(isVector, l)
	case "VECTOR":
		must(len(l) == 2 && isStar(l[0]))
		return readLength(vectors, l[1:])
	case "ARRAY":
		must(len(l) == 2 && isStar(l[0]))
		return readDimensions(l[1])
	}
	panic(wrong{})
}

func (r reader) specs(l []api.Form, conses int) []spec {
	var specs []spec
	for _, t := range l {
		specs = append(specs, r.spec(t, conses))
	}
	return specs
}

// cons reads the types of car and cdr.
func (r reader) cons(l []api.Form, conses int) spec {
	must(conses < maxConses && len(l) <= 2)
	parts := []spec{sorted(anything), sorted(anything)}
	for i, t := range l {
		if !isStar(t) {
			parts[i] = r.spec(t, conses+1)
		}
	}
	return spec{kind: ofConses, kids: parts}
}

func star() api.Form { return forms.Symbol(lisp, "*") }

func isStar(x api.Form) bool { return forms.Is(x, lisp, "*") }

// isNumber reports whether a number may stand in a type specifier.
func isNumber(x api.Form) bool {
	if !forms.Number(x) || number.Check(x) != api.OK || len(x.Text) > maxText {
		return false
	}
	for _, part := range x.Kids {
		if len(part.Text) > maxText {
			return false
		}
	}
	return true
}

// isNamed reports whether a symbol may be a member.
func isNamed(x api.Form) bool { return x.Kind == api.FormSymbol && x.Home != "" && x.Home != "%" }

func readMembers(l []api.Form) spec {
	for _, x := range l {
		must(isNamed(x) || isNumber(x) || x.Kind == api.FormChar)
	}
	return spec{kind: ofMembers, members: l}
}

// readBounds reads numbers of some sorts between bounds, which are numbers of others.
func readBounds(sorts, bounds int, l []api.Form) spec {
	must(len(l) <= 2)
	t := sorted(sorts)
	both := [...]*bound{&t.low, &t.high}
	for i, x := range l {
		*both[i] = readBound(bounds, x)
	}
	return t
}

func readBound(sorts int, x api.Form) bound {
	if isStar(x) {
		return bound{}
	}
	b := bound{some: true, value: x}
	if x.Kind == api.FormCons {
		l, proper := forms.Items(x)
		must(proper && len(l) == 1)
		b.open, b.value = true, l[0]
	}
	must(isNumber(b.value) && sortOf(b.value)&sorts != 0)
	return b
}

// readSize reads an integer from 1 on.
func readSize(l []api.Form, most int) int {
	must(len(l) == 1)
	n := readNatural(l[0], most)
	must(n > 0)
	return n
}

// readNatural reads an integer from 0 to most.
func readNatural(x api.Form, most int) int {
	must(x.Kind == api.FormInt)
	n, failed := strconv.Atoi(x.Text)
	must(failed == nil && n >= 0 && n <= most)
	return n
}

// readAny reads a length or a dimension, or *.
func readAny(x api.Form, most int) int {
	if isStar(x) {
		return -1
	}
	return readNatural(x, most)
}

func readLength(sorts int, l []api.Form) spec {
	must(len(l) == 1)
	return sized(sorts, readAny(l[0], 50))
}

func readDimensions(x api.Form) spec {
	arrays := vectors | isArray
	if x.Kind == api.FormInt {
		dims := make([]int, readNatural(x, 4))
		for i := range dims {
			dims[i] = -1
		}
		return sized(arrays, dims...)
	}
	if isStar(x) {
		return sorted(arrays)
	}
	l, proper := forms.Items(x)
	must(proper && len(l) <= 4)
	t := sized(arrays)
	for _, d := range l {
		t.dims = append(t.dims, readAny(d, 4))
	}
	return t
}
