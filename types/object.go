package types

import (
	"strconv"
	"strings"
	"unicode/utf8"

	"commonform/api"
	"commonform/forms"
	"commonform/number"
)

// Sorts of objects: each object is of one of them. A type has a set of sorts.
const (
	isNull = 1 << iota
	isTrue
	isKeyword
	isSymbol // any other one
	isInteger
	isRatio
	isSingle
	isDouble
	isComplex
	isCharacter
	isString
	isBits
	isVector
	isArray
	isFunction
	isTable
	isOther // what has no form, and is neither
	isCons
)

// Sets of sorts.
const (
	rationals = isInteger | isRatio
	floats    = isSingle | isDouble
	reals     = rationals | floats
	symbols   = isNull | isTrue | isKeyword | isSymbol
	lists     = isNull | isCons
	vectors   = isString | isBits | isVector
	anything  = isCons<<1 - 1
)

// sortOf returns the sort of an object.
func sortOf(x api.Form) int {
	switch x.Kind {
	case api.FormSymbol:
		return symbolSort(x)
	case api.FormInt:
		return isInteger
	case api.FormRatio:
		return isRatio
	case api.FormSingle:
		return isSingle
	case api.FormDouble:
		return isDouble
	case api.FormComplex:
		return isComplex
	case api.FormChar:
		return isCharacter
	case api.FormString:
		return isString
	case api.FormBits:
		return isBits
	case api.FormVector:
		return isVector
	case api.FormArray:
		return isArray
	}
	return isCons
}

func symbolSort(x api.Form) int {
	switch {
	case x.Home == "%" && (x.Text == "BUILTIN" || x.Text == "CLOSURE"):
		return isFunction
	case x.Home == "%" && x.Text == "TABLE":
		return isTable
	case x.Home == "%":
		return isOther
	case x.Home == "KEYWORD":
		return isKeyword
	case forms.IsNil(x):
		return isNull
	case forms.Is(x, lisp, "T"):
		return isTrue
	}
	return isSymbol
}

// objectError returns the error of an object.
func objectError(x api.Form) api.Errno {
	if e := forms.Check(x); e != api.OK {
		return e
	}
	if !isObject(x) {
		return api.ErrForm
	}
	return api.OK
}

// isObject reports whether a form has no labels, and only numbers of layer 5.
func isObject(x api.Form) bool {
	if x.Kind == api.FormLabel || forms.Number(x) && number.Check(x) != api.OK {
		return false
	}
	for _, kid := range x.Kids {
		if !isObject(kid) {
			return false
		}
	}
	return true
}

// car returns the first part of a cons. It shares its memory.
func car(x api.Form) api.Form { return x.Kids[0] }

// cdr returns the second part of a cons. It shares its memory.
func cdr(x api.Form) api.Form {
	if len(x.Kids) == 2 {
		return x.Kids[1]
	}
	return api.Form{Kind: api.FormCons, Kids: x.Kids[1:]}
}

// dimensions returns the dimensions of an array.
func dimensions(x api.Form) []int {
	switch x.Kind {
	case api.FormString:
		return []int{utf8.RuneCountInString(x.Text)}
	case api.FormBits:
		return []int{len(x.Text)}
	case api.FormVector:
		return []int{len(x.Kids)}
	}
	var dims []int
	for _, word := range strings.Fields(x.Text) {
		d, _ := strconv.Atoi(word)
		dims = append(dims, d)
	}
	return dims
}

func whole(n int) api.Form { return api.Form{Kind: api.FormInt, Text: strconv.Itoa(n)} }
