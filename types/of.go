package types

import (
	"commonform/api"
	"commonform/forms"
)

func name(s string) api.Form { return forms.Symbol(lisp, s) }

// Of returns a type that an object has, as special as types are here.
func Of(x api.Form) (api.Form, api.Errno) {
	if e := objectError(x); e != api.OK {
		return api.Form{}, e
	}
	t := typeOf(x, 0)
	// what is still wrong with it is its size, or that of a number
	if Check(t) != api.OK {
		return name("T"), api.OK
	}
	return t, api.OK
}

// typeOf returns the type of an object that stands in so many CONS.
func typeOf(x api.Form, conses int) api.Form {
	switch sortOf(x) {
	case isFunction:
		return name("FUNCTION")
	case isTable:
		return name("HASH-TABLE")
	case isOther:
		return name("ATOM")
	case isCons:
		return consType(x, conses)
	case isString:
		return lengthType("STRING", x)
	case isBits:
		return lengthType("BIT-VECTOR", x)
	case isVector:
		return lengthType("SIMPLE-VECTOR", x)
	case isArray:
		return arrayType(x)
	}
	if x.Kind == api.FormSymbol && x.Home == "" {
		return name("SYMBOL")
	}
	return forms.Call("EQL", []api.Form{x})
}

func consType(x api.Form, conses int) api.Form {
	if conses == maxConses {
		return name("CONS")
	}
	return forms.Call("CONS", []api.Form{typeOf(car(x), conses+1), typeOf(cdr(x), conses+1)})
}

func lengthType(kind string, x api.Form) api.Form {
	return typeOrName(kind, []api.Form{whole(dimensions(x)[0])})
}

func arrayType(x api.Form) api.Form {
	var dims []api.Form
	for _, d := range dimensions(x) {
		dims = append(dims, whole(d))
	}
	return typeOrName("ARRAY", []api.Form{star(), forms.List(dims)})
}

// typeOrName returns a type with arguments, or its name, if this is no type specifier.
func typeOrName(kind string, l []api.Form) api.Form {
	t := forms.Call(kind, l)
	if Check(t) != api.OK {
		return name(kind)
	}
	return t
}
