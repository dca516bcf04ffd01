package reader

import (
	"commonform/api"
	"commonform/forms"
)

// The functions of this file do not copy what they are given, unlike those of forms: elements that #n( repeats share their memory until it is known that the whole form is not too large.

func list(l ...api.Form) api.Form {
	if len(l) == 0 {
		return forms.Nil()
	}
	return dotted(l, forms.Nil())
}

// dotted returns a list that has elements, with a tail.
func dotted(l []api.Form, tail api.Form) api.Form {
	kids := append([]api.Form(nil), l...)
	if tail.Kind == api.FormCons {
		return api.Form{Kind: api.FormCons, Kids: append(kids, tail.Kids...)}
	}
	return api.Form{Kind: api.FormCons, Kids: append(kids, tail)}
}

// call returns the list of a symbol of COMMON-LISP and some arguments.
func call(name string, l ...api.Form) api.Form {
	return list(append([]api.Form{forms.Symbol(lisp, name)}, l...)...)
}

// items returns the elements of a proper list, and whether it is one.
func items(f api.Form) ([]api.Form, bool) {
	if last := len(f.Kids) - 1; f.Kind == api.FormCons && last >= 1 {
		return f.Kids[:last], forms.IsNil(f.Kids[last])
	}
	return nil, forms.IsNil(f)
}

// copied returns a form with memory of its own.
func copied(f api.Form) api.Form {
	kids := f.Kids
	f.Kids = nil
	for _, kid := range kids {
		own := copied(kid)
		f.Kids = append(f.Kids, own)
	}
	return f
}
