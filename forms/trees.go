// Package forms is about forms as plain trees and as graphs: their errors, lists, labels and references, and whether two are the same object.
package forms

import (
	"iter"

	"commonform/api"
)

// MaxRank is the greatest number of dimensions of an array.
const MaxRank = 7

// Codes of this layer.
const (
	ErrLabel  api.Errno = 30 // a reference to a label that is not there, or a label of nothing
	ErrCircle api.Errno = 31 // a form that comes back to itself
)

const lisp = "COMMON-LISP"

// walk yields the nodes of a tree with their depths: each node ahead of those of its Kids, and these in order.
func walk(f api.Form) iter.Seq2[int, api.Form] {
	return func(yield func(int, api.Form) bool) {
		left := [][]api.Form{{f}} // what is still to be met, level by level
		for len(left) > 0 {
			last := len(left) - 1
			if len(left[last]) == 0 {
				left = left[:last]
				continue
			}
			node := left[last][0]
			left[last] = left[last][1:]
			if !yield(len(left), node) {
				return
			}
			left = append(left, node.Kids)
		}
	}
}

// Size returns the number of nodes of any tree, and its depth.
func Size(f api.Form) (nodes, depth int) {
	for level := range walk(f) {
		nodes++
		depth = max(depth, level)
	}
	return nodes, depth
}

// copied returns a tree with memory of its own.
func copied(f api.Form) api.Form {
	f.Kids = copies(f.Kids)
	return f
}

func copies(l []api.Form) []api.Form {
	var kids []api.Form
	for _, f := range l {
		kids = append(kids, copied(f))
	}
	return kids
}

// Symbol returns a symbol.
func Symbol(home, name string) api.Form {
	return api.Form{Kind: api.FormSymbol, Text: name, Home: home}
}

// Nil returns NIL.
func Nil() api.Form { return Symbol(lisp, "NIL") }

// IsNil reports whether a form is NIL.
func IsNil(f api.Form) bool { return Is(f, lisp, "NIL") }

// Is reports whether a form is a symbol.
func Is(f api.Form, home, name string) bool {
	return f.Kind == api.FormSymbol && f.Text == name && f.Home == home
}

// Number reports whether a form is a number.
func Number(f api.Form) bool { return f.Kind >= api.FormInt && f.Kind <= api.FormComplex }

// Equal reports whether two forms are equal as trees.
func Equal(a, b api.Form) bool {
	if a.Kind != b.Kind || a.Text != b.Text || a.Home != b.Home || len(a.Kids) != len(b.Kids) {
		return false
	}
	for i, kid := range a.Kids {
		if !Equal(kid, b.Kids[i]) {
			return false
		}
	}
	return true
}

// List returns a proper list.
func List(l []api.Form) api.Form { return Dotted(l, Nil()) }

// Dotted returns a list with a tail.
func Dotted(l []api.Form, tail api.Form) api.Form {
	if len(l) == 0 {
		return copied(tail)
	}
	kids := copies(l)
	if tail.Kind == api.FormCons {
		kids = append(kids, copies(tail.Kids)...)
	} else {
		kids = append(kids, copied(tail))
	}
	return api.Form{Kind: api.FormCons, Kids: kids}
}

// Call returns the list of a symbol of COMMON-LISP and its arguments.
func Call(name string, l []api.Form) api.Form {
	return List(append([]api.Form{Symbol(lisp, name)}, l...))
}

// Spread returns the elements of a list, and its tail.
func Spread(f api.Form) ([]api.Form, api.Form) {
	last := len(f.Kids) - 1
	if f.Kind != api.FormCons || last < 1 {
		return nil, copied(f)
	}
	return copies(f.Kids[:last]), copied(f.Kids[last])
}

// Items returns the elements of a proper list.
func Items(f api.Form) ([]api.Form, bool) {
	l, tail := Spread(f)
	if !IsNil(tail) {
		return nil, false
	}
	return l, true
}
