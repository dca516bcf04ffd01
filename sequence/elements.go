package sequence

import (
	"strconv"
	"strings"

	"commonform/api"
	"commonform/number"
)

func isTest(test int) bool { return test >= Same && test <= Loose }

func isOrder(order int) bool { return order >= Numbers && order <= Strings }

func isKey(key int) bool { return key >= Whole && key <= Length }

// Alike reports whether two elements are alike by a test.
func Alike(test int, x, y api.Form) (bool, api.Errno) {
	if !isTest(test) {
		return false, api.ErrArg
	}
	return sketch(test, x) == sketch(test, y), api.OK
}

// Less reports whether an element is less than another one.
func Less(order int, x, y api.Form) (bool, api.Errno) {
	if !isOrder(order) {
		return false, api.ErrArg
	}
	if !ordered(order, x) || !ordered(order, y) {
		return false, api.ErrType
	}
	return lessBy(order)(x, y), api.OK
}

// Taken returns what of an element counts.
func Taken(key int, x api.Form) (api.Form, api.Errno) {
	if !isKey(key) {
		return api.Form{}, api.ErrArg
	}
	k, ok := keyOf(key, x)
	if !ok {
		return api.Form{}, api.ErrType
	}
	return copied(k), api.OK
}

// keyOf returns the key of an element, and whether it has one. The key shares the memory of the element.
func keyOf(key int, x api.Form) (api.Form, bool) {
	keys := [...]func(api.Form) (api.Form, bool){
		Whole:  func(x api.Form) (api.Form, bool) { return x, true },
		First:  first,
		Second: second,
		Length: length,
	}
	return keys[key](x)
}

func first(x api.Form) (api.Form, bool) {
	if x.Kind != api.FormCons || len(x.Kids) == 0 {
		return api.Form{}, false
	}
	return x.Kids[0], true
}

func second(x api.Form) (api.Form, bool) {
	switch n := len(x.Kids); {
	case x.Kind != api.FormCons || n == 0:
		return api.Form{}, false
	case n > 2:
		return x.Kids[1], true
	default:
		return first(x.Kids[n-1])
	}
}

func length(x api.Form) (api.Form, bool) {
	n := 0
	switch x.Kind {
	case api.FormVector:
		n = len(x.Kids)
	case api.FormString:
		n = len(x.Text)
	case api.FormCons:
		n = len(x.Kids) - 1
	default:
		return api.Form{}, false
	}
	return api.Form{Kind: api.FormInt, Text: strconv.Itoa(n)}, true
}

// sketch returns a text that two elements have in common just if they are alike.
func sketch(test int, x api.Form) string {
	views := [...]func(api.Form) api.Form{
		Same:  func(x api.Form) api.Form { return x },
		Loose: loosely,
	}
	var text strings.Builder
	sketchTree(&text, views[test](x))
	return text.String()
}

// sketchTree writes a form so that no other one has the same text: each list and each text stands behind its length.
func sketchTree(text *strings.Builder, x api.Form) {
	for _, n := range [...]int{x.Kind, len(x.Text), len(x.Home), len(x.Kids)} {
		text.WriteString(strconv.Itoa(n))
		text.WriteByte(' ')
	}
	text.WriteString(x.Text)
	text.WriteString(x.Home)
	for _, kid := range x.Kids {
		sketchTree(text, kid)
	}
}

// loosely returns one form for all elements that are alike by Loose.
func loosely(x api.Form) api.Form {
	if number.Check(x) == api.OK {
		return exactly(x)
	}
	switch x.Kind {
	case api.FormChar, api.FormString:
		return api.Form{Kind: x.Kind, Text: great(x.Text)}
	case api.FormCons, api.FormVector:
		parts := api.Form{Kind: x.Kind}
		for _, kid := range x.Kids {
			parts.Kids = append(parts.Kids, loosely(kid))
		}
		return parts
	}
	return x
}

// exactly returns the one rational or complex number with the value of a number.
func exactly(x api.Form) api.Form {
	if x.Kind == api.FormInt || x.Kind == api.FormRatio {
		return x
	}
	re, _ := number.Real(x)
	im, _ := number.Imaginary(x)
	re, _ = number.Rational(re)
	im, _ = number.Rational(im)
	z, _ := number.Complex(re, im)
	return z
}

// great returns a text with the letters a to z as A to Z.
func great(s string) string {
	b := []byte(s)
	for i, c := range b {
		if c >= 'a' && c <= 'z' {
			b[i] = c - 'a' + 'A'
		}
	}
	return string(b)
}

// ordered reports whether an element is of the kind of an order.
func ordered(order int, x api.Form) bool {
	kinds := [...]func() bool{
		Numbers:    func() bool { return x.Kind != api.FormComplex && number.Check(x) == api.OK },
		Characters: func() bool { return x.Kind == api.FormChar },
		Strings:    func() bool { return x.Kind == api.FormString },
	}
	return kinds[order]()
}

// lessBy returns what tells which of two elements of the kind of an order is less.
func lessBy(order int) func(x, y api.Form) bool {
	texts := func(x, y api.Form) bool { return x.Text < y.Text }
	orders := [...]func(x, y api.Form) bool{
		Numbers: func(x, y api.Form) bool {
			sign, _ := number.Cmp(x, y)
			return sign < 0
		},
		Characters: texts,
		Strings:    texts,
	}
	return orders[order]
}
