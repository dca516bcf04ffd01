package types

import (
	"slices"

	"commonform/api"
	"commonform/forms"
	"commonform/number"
)

// Kinds of types.
const (
	ofSorts   = iota // objects of some sorts, within bounds, and with dimensions
	ofMembers        // some objects
	ofAll            // objects of all of some types
	ofOne            // objects of one of some types
	ofNone           // objects that are not of a type
	ofConses         // conses with a car and a cdr of types
)

// spec is a type.
type spec struct {
	kind      int
	sorts     int
	low, high bound // of the value of real numbers
	sized     bool  // whether the dimensions of arrays matter
	dims      []int // -1: any
	members   []api.Form
	kids      []spec
}

// bound is a bound of real numbers, if there is one.
type bound struct {
	some  bool
	open  bool // the value itself is out of bounds
	value api.Form
}

// atomic reports whether a type has no other types as its parts.
func (t spec) atomic() bool { return t.kind == ofSorts || t.kind == ofMembers }

// has reports whether an object is of a type.
func (t spec) has(x api.Form) bool {
	has := func(kid spec) bool { return kid.has(x) }
	lacks := func(kid spec) bool { return !kid.has(x) }
	switch t.kind {
	case ofSorts:
		return t.sorts&sortOf(x) != 0 && t.low.under(x) && t.high.above(x) && t.fits(x)
	case ofMembers:
		return slices.ContainsFunc(t.members, func(m api.Form) bool { return forms.Equal(m, x) })
	case ofAll:
		return !slices.ContainsFunc(t.kids, lacks)
	case ofOne:
		return slices.ContainsFunc(t.kids, has)
	case ofNone:
		return !has(t.kids[0])
	}
	return x.Kind == api.FormCons && t.kids[0].has(car(x)) && t.kids[1].has(cdr(x))
}

// under reports whether a real number is not below the bound.
func (b bound) under(x api.Form) bool {
	if !b.some {
		return true
	}
	sign, _ := number.Cmp(b.value, x)
	return sign < 0 || sign == 0 && !b.open
}

// above reports whether a real number is not above the bound.
func (b bound) above(x api.Form) bool {
	if !b.some {
		return true
	}
	sign, _ := number.Cmp(b.value, x)
	return sign > 0 || sign == 0 && !b.open
}

// fits reports whether an array has the dimensions of the type.
func (t spec) fits(x api.Form) bool {
	if !t.sized {
		return true
	}
	dims := dimensions(x)
	if len(dims) != len(t.dims) {
		return false
	}
	for i, d := range t.dims {
		if d != -1 && d != dims[i] {
			return false
		}
	}
	return true
}

func sorted(sorts int) spec { return spec{kind: ofSorts, sorts: sorts} }

func sized(sorts int, dims ...int) spec {
	return spec{kind: ofSorts, sorts: sorts, sized: true, dims: dims}
}

func closed(value api.Form) bound { return bound{some: true, value: value} }

// integersBetween returns the type of the integers within bounds.
func integersBetween(low, high bound) spec {
	return spec{kind: ofSorts, sorts: isInteger, low: low, high: high}
}

func opposite(t spec) spec { return spec{kind: ofNone, kids: []spec{t}} }

// powerOfTwo returns 2^n and a number more.
func powerOfTwo(n, more int) api.Form {
	power, _ := number.Power(whole(2), n)
	sum, _ := number.Add(power, whole(more))
	return sum
}

func negative(x api.Form) api.Form {
	minus, _ := number.Neg(x)
	return minus
}

// names returns the sorts of the types that have a name, and are made of whole sorts.
func names() map[string]int {
	return map[string]int{
		"T": anything, "NIL": 0, "ATOM": anything &^ isCons, "CONS": isCons, "NULL": isNull, "LIST": lists,
		"SYMBOL": symbols, "KEYWORD": isKeyword, "BOOLEAN": isNull | isTrue,
		"NUMBER": reals | isComplex, "REAL": reals, "RATIONAL": rationals, "INTEGER": isInteger, "RATIO": isRatio,
		"FLOAT": floats, "SINGLE-FLOAT": isSingle, "DOUBLE-FLOAT": isDouble, "COMPLEX": isComplex,
		"CHARACTER": isCharacter, "STRING": isString, "BIT-VECTOR": isBits, "SIMPLE-VECTOR": isVector,
		"VECTOR": vectors, "ARRAY": vectors | isArray, "SEQUENCE": lists | vectors,
		"FUNCTION": isFunction, "HASH-TABLE": isTable,
	}
}

// signedBytes returns the type of the integers with so many bits, of which one is the sign.
func signedBytes(n int) spec {
	return integersBetween(closed(negative(powerOfTwo(n-1, 0))), closed(powerOfTwo(n-1, -1)))
}
