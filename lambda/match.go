package lambda

import (
	"iter"

	"commonform/api"
	"commonform/forms"
	"commonform/trees"
)

// Match binds arguments.
func Match(l List, args []api.Form) ([]Binding, api.Errno) {
	if !ends(l) {
		return nil, api.ErrForm
	}
	var m matching
	var all []Binding
	for b := range m.list(l, trees.List(args...)) {
		b.Var, b.Value = trees.Copy(b.Var), trees.Copy(b.Value)
		all = append(all, b)
	}
	if m.e != api.OK {
		return nil, m.e
	}
	return all, api.OK
}

// matching binds arguments up to the first error.
type matching struct{ e api.Errno }

// list yields what the variables of a list are bound to by a list of arguments.
func (m *matching) list(l List, whole api.Form) iter.Seq[Binding] {
	return func(yield func(Binding) bool) {
		args, tail := trees.Spread(whole)
		left := args[min(positions(l), len(args)):]
		m.e = fits(l, args, left, tail)
		for _, item := range l.Items {
			if m.e != api.OK {
				return
			}
			var value api.Form
			given := false
			switch item.Kind {
			case Required, Optional:
				if given = len(args) > 0; given {
					value, args = args[0], args[1:]
				}
			case Rest:
				value, given = trees.Dotted(left, tail), true
			case Whole:
				value, given = whole, true
			case Key:
				value, given = found(left, item.Key)
			}
			for b := range m.item(item, value, given) {
				if !yield(b) {
					return
				}
			}
		}
	}
}

// item yields what the variables of an item are bound to by a value, if it was given.
func (m *matching) item(item Item, value api.Form, given bool) iter.Seq[Binding] {
	return func(yield func(Binding) bool) {
		switch {
		case item.Pattern != nil && given && value.Kind != api.FormCons && !forms.IsNil(value):
			m.e = api.ErrForm
			return
		case item.Pattern != nil && given:
			for b := range m.list(*item.Pattern, value) {
				if !yield(b) {
					return
				}
			}
		case given:
			if !yield(Binding{Var: item.Var, Value: value}) {
				return
			}
		default:
			for _, v := range Variables(List{Items: []Item{{Var: item.Var, Pattern: item.Pattern}}}) {
				if !yield(Binding{Var: v, Value: forms.Nil(), Missing: true}) {
					return
				}
			}
		}
		if item.tells() && m.e == api.OK {
			yield(Binding{Var: item.Given, Value: truth(given)})
		}
	}
}

func truth(b bool) api.Form {
	if b {
		return trees.Name("T")
	}
	return forms.Nil()
}

// positions returns how many required and optional parameters there are.
func positions(l List) int {
	n := 0
	for _, item := range l.Items {
		if item.Kind == Required || item.Kind == Optional {
			n++
		}
	}
	return n
}

// takesRest reports whether there is a parameter for all that is left.
func takesRest(l List) bool {
	for _, item := range l.Items {
		if item.Kind == Rest {
			return true
		}
	}
	return false
}

// fits returns the error of arguments, of which some are left behind the required and optional ones.
func fits(l List, args, left []api.Form, tail api.Form) api.Errno {
	least, most := Arity(l)
	switch {
	case len(args) < least, most >= 0 && len(args) > most:
		return api.ErrSize
	case !forms.IsNil(tail) && !takesRest(l):
		return api.ErrForm
	case l.Keys && len(left)%2 != 0:
		return api.ErrForm
	case l.Keys && !l.Allow && !keysKnown(l, left):
		return api.ErrNone
	}
	return api.OK
}

// keysKnown reports whether all keys are those of a list, or others are allowed.
func keysKnown(l List, left []api.Form) bool {
	allow := forms.Symbol(trees.Keyword, "ALLOW-OTHER-KEYS")
	if value, ok := found(left, allow); ok && !forms.IsNil(value) {
		return true
	}
pairs:
	for i := 0; i < len(left); i += 2 {
		if forms.Equal(left[i], allow) {
			continue
		}
		for _, item := range l.Items {
			if item.Kind == Key && forms.Equal(item.Key, left[i]) {
				continue pairs
			}
		}
		return false
	}
	return true
}

// found returns the value behind the first key that is this one.
func found(left []api.Form, key api.Form) (api.Form, bool) {
	for i := 0; i+1 < len(left); i += 2 {
		if forms.Equal(left[i], key) {
			return left[i+1], true
		}
	}
	return api.Form{}, false
}
