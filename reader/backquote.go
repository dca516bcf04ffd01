package reader

import (
	"commonform/api"
	"commonform/forms"
)

// Backquote returns the form that makes what stands behind a backquote.
func Backquote(f api.Form) (api.Form, api.Errno) {
	if e := forms.Check(f); e != api.OK {
		return api.Form{}, e
	}
	if labelled(f) {
		return api.Form{}, forms.ErrLabel
	}
	made, e := maker(f, 1)
	if e != api.OK {
		return api.Form{}, e
	}
	if nodes, depth := forms.Size(made); nodes > api.MaxForm || depth > api.MaxDepth {
		return api.Form{}, api.ErrSize
	}
	return copied(made), api.OK
}

func labelled(f api.Form) bool {
	if f.Kind == api.FormLabel {
		return true
	}
	for _, kid := range f.Kids {
		if labelled(kid) {
			return true
		}
	}
	return false
}

func isBackquote(f api.Form) bool { return forms.Is(f, own, "BACKQUOTE") }

func isComma(f api.Form) bool { return forms.Is(f, own, "COMMA") }

func isSplice(f api.Form) bool { return forms.Is(f, own, "SPLICE") }

// isPair reports whether a form is a proper list of two elements.
func isPair(f api.Form) bool {
	l, ok := items(f)
	return ok && len(l) == 2
}

// maker returns a form whose value is f, with the values of what stands behind commas, in a depth of backquotes.
func maker(f api.Form, depth int) (api.Form, api.Errno) {
	switch {
	case f.Kind == api.FormVector:
		l, e := maker(list(f.Kids...), depth)
		return call("APPLY", call("FUNCTION", forms.Symbol(lisp, "VECTOR")), l), e
	case f.Kind != api.FormCons:
		return call("QUOTE", f), api.OK
	case depth == 1 && isComma(f.Kids[0]) && isPair(f):
		return f.Kids[1], api.OK
	case depth == 1 && isSplice(f.Kids[0]) && isPair(f):
		return api.Form{}, ErrComma
	case depth == 1 && (isComma(f.Kids[0]) || isSplice(f.Kids[0])):
		return api.Form{}, api.ErrForm
	}
	return joiner(f, depth)
}

// joiner returns the form that appends the elements of a list and its tail.
func joiner(f api.Form, depth int) (api.Form, api.Errno) {
	l, tail := divided(f)
	switch inner := l[0]; {
	case !isPair(f):
	case isBackquote(inner):
		depth++
	case isComma(inner), isSplice(inner):
		depth--
	}
	var parts []api.Form
	for _, x := range l {
		part, e := segment(x, depth)
		if e != api.OK {
			return api.Form{}, e
		}
		parts = append(parts, part)
	}
	end, e := maker(tail, depth)
	return call("APPEND", append(parts, end)...), e
}

// divided returns the elements of a list and its tail: a comma as the last element but one begins the tail.
func divided(f api.Form) ([]api.Form, api.Form) {
	last := len(f.Kids) - 1
	l, tail := f.Kids[:last], f.Kids[last]
	if mark := last - 2; mark >= 1 && forms.IsNil(tail) && (isComma(l[mark]) || isSplice(l[mark])) {
		return l[:mark], list(l[mark:]...)
	}
	return l, tail
}

// segment returns the form that makes the list of an element, or, for a splice, of several.
func segment(x api.Form, depth int) (api.Form, api.Errno) {
	if depth == 1 && isPair(x) && isSplice(x.Kids[0]) {
		return x.Kids[1], api.OK
	}
	made, e := maker(x, depth)
	return call("LIST", made), e
}
