// Package trees is no layer: it takes forms apart and puts them together for the layers that read programs. Unlike the functions of forms, these copy nothing: what they return shares memory with what they are given, until Copy is called.
package trees

import (
	"commonform/api"
	"commonform/forms"
)

// The packages of symbols that mean something to all layers.
const (
	Lisp    = "COMMON-LISP"
	Keyword = "KEYWORD"
)

// Name returns the symbol of COMMON-LISP with a name.
func Name(name string) api.Form { return forms.Symbol(Lisp, name) }

// List returns the proper list of some elements.
func List(l ...api.Form) api.Form { return Dotted(l, forms.Nil()) }

// Dotted returns the list of some elements with a tail that is no list.
func Dotted(l []api.Form, tail api.Form) api.Form {
	if len(l) == 0 {
		return tail
	}
	kids := make([]api.Form, 0, len(l)+1)
	kids = append(kids, l...)
	return api.Form{Kind: api.FormCons, Kids: append(kids, tail)}
}

// Call returns the list of a symbol of COMMON-LISP and some arguments.
func Call(name string, l ...api.Form) api.Form {
	return List(append([]api.Form{Name(name)}, l...)...)
}

// Spread returns the elements of a list, and its tail: without elements what is no list.
func Spread(f api.Form) ([]api.Form, api.Form) {
	last := len(f.Kids) - 1
	if f.Kind != api.FormCons || last < 1 {
		return nil, f
	}
	return f.Kids[:last:last], f.Kids[last]
}

// Items returns the elements of a proper list, and whether it is one.
func Items(f api.Form) ([]api.Form, bool) {
	l, tail := Spread(f)
	if !forms.IsNil(tail) {
		return nil, false
	}
	return l, true
}

// Marker reports whether a form is one of the markers of lambda lists.
func Marker(f api.Form) bool {
	if f.Kind != api.FormSymbol || f.Home != Lisp {
		return false
	}
	switch f.Text {
	case "&OPTIONAL", "&REST", "&BODY", "&KEY", "&ALLOW-OTHER-KEYS", "&AUX", "&WHOLE", "&ENVIRONMENT":
		return true
	}
	return false
}

// Variable reports whether a form may be a variable.
func Variable(f api.Form) bool {
	return f.Kind == api.FormSymbol && f.Home != Keyword && !Marker(f) && !forms.IsNil(f) && !forms.Is(f, Lisp, "T")
}

// Labelled reports whether a form has labels.
func Labelled(f api.Form) bool {
	if f.Kind == api.FormLabel {
		return true
	}
	for _, kid := range f.Kids {
		if Labelled(kid) {
			return true
		}
	}
	return false
}

// Copy returns a form with memory of its own.
func Copy(f api.Form) api.Form {
	f.Kids = Copies(f.Kids)
	return f
}

// Copies returns some forms with memory of their own.
func Copies(l []api.Form) []api.Form {
	if len(l) == 0 {
		return nil
	}
	own := make([]api.Form, 0, len(l))
	for _, f := range l {
		own = append(own, Copy(f))
	}
	return own
}

// CopyCore returns a core tree with memory of its own.
func CopyCore(c api.Core) api.Core {
	own := api.Core{Op: c.Op, N: c.N, Syms: Copies(c.Syms), Data: Copy(c.Data)}
	own.Vars = append(own.Vars, c.Vars...)
	for _, p := range c.Pars {
		p.Key = Copy(p.Key)
		own.Pars = append(own.Pars, p)
	}
	for _, kid := range c.Kids {
		copied := CopyCore(kid)
		own.Kids = append(own.Kids, copied)
	}
	return own
}
