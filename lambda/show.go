package lambda

import (
	"commonform/api"
	"commonform/forms"
	"commonform/trees"
)

// Show returns a lambda list.
func Show(l List) (api.Form, api.Errno) {
	if !ends(l) {
		return api.Form{}, api.ErrForm
	}
	// A list may be so large that only a tail in the place of &REST leaves room.
	for _, tails := range []bool{false, true} {
		f := shown(l, tails)
		back, e := Parse(f, true)
		if e == api.OK && same(back, l) {
			return trees.Copy(f), api.OK
		}
	}
	return api.Form{}, api.ErrForm
}

// shown returns the shortest lambda list of some items, if there is one; with a tail for a last &REST, if wanted.
func shown(l List, tails bool) api.Form {
	var elements []api.Form
	group, keys, allow := Required, l.Keys, l.Allow
	mark := func(name string) { elements = append(elements, trees.Name(name)) }
	closeKeys := func() {
		if keys {
			mark("&KEY")
		}
		if allow {
			mark("&ALLOW-OTHER-KEYS")
		}
		keys, allow = false, false
	}
	for i, item := range l.Items {
		switch {
		case item.Kind == Optional && group != Optional:
			mark("&OPTIONAL")
		case item.Kind == Rest && tails && len(elements) > 0 && i == len(l.Items)-1 && !l.Keys:
			return trees.Dotted(elements, item.Var)
		case item.Kind == Rest:
			mark("&REST")
		case item.Kind == Key && keys:
			mark("&KEY")
			keys = false
		case item.Kind == Aux && group != Aux:
			closeKeys()
			mark("&AUX")
		case item.Kind == Whole:
			mark("&WHOLE")
		case item.Kind == Environment:
			mark("&ENVIRONMENT")
		}
		if item.Kind != Environment {
			group = item.Kind
		}
		elements = append(elements, shownItem(item, tails))
	}
	closeKeys()
	return trees.List(elements...)
}

// shownItem returns a parameter, or the variable of a marker.
func shownItem(item Item, tails bool) api.Form {
	target := item.Var
	if item.Pattern != nil {
		target = shown(*item.Pattern, tails)
	}
	short := item.Pattern == nil
	if item.Kind == Key && (!short || !forms.Is(item.Key, trees.Keyword, item.Var.Text)) {
		target = trees.List(item.Key, target)
		short = false
	}
	switch {
	case item.Kind != Optional && item.Kind != Key && item.Kind != Aux:
		return target
	case item.tells():
		return trees.List(target, item.Init, item.Given)
	case !forms.IsNil(item.Init):
		return trees.List(target, item.Init)
	case !short:
		return trees.List(target)
	}
	return target
}

// same reports whether two lists say the same.
func same(a, b List) bool {
	if len(a.Items) != len(b.Items) || a.Keys != b.Keys || a.Allow != b.Allow {
		return false
	}
	for i, x := range a.Items {
		y := b.Items[i]
		if x.Kind != y.Kind || (x.Pattern == nil) != (y.Pattern == nil) {
			return false
		}
		if x.Pattern != nil && !same(*x.Pattern, *y.Pattern) {
			return false
		}
		if !forms.Equal(x.Var, y.Var) || !forms.Equal(x.Init, y.Init) || !forms.Equal(x.Given, y.Given) || !forms.Equal(x.Key, y.Key) {
			return false
		}
	}
	return true
}
