package lambda

import (
	"commonform/api"
	"commonform/forms"
	"commonform/trees"
)

// What was read last of a lambda list: in this order.
const (
	atStart    = iota
	atRequired // &WHOLE or a required parameter
	atOptional // &OPTIONAL
	atRest     // &REST and its variable
	atKey      // &KEY
	atAllow    // &ALLOW-OTHER-KEYS
	atAux      // &AUX
)

// scan reads a lambda list.
type scan struct {
	macro, inner bool // whether it belongs to a macro; whether it is a pattern
	state        int
	environment  bool // whether there was an &ENVIRONMENT
	left         []api.Form
	list         List
}

// read returns what a lambda list says, and whether it is one.
func read(list api.Form, macro, inner bool) (List, bool) {
	elements, tail := trees.Spread(list)
	s := scan{macro: macro, inner: inner, left: elements}
	for len(s.left) > 0 {
		if !s.element(s.take()) {
			return List{}, false
		}
	}
	if forms.IsNil(tail) {
		return s.list, true
	}
	ok := macro && len(elements) > 0 && s.enter(atRest) && s.variable(Rest, tail)
	return s.list, ok
}

// take takes the next element.
func (s *scan) take() api.Form {
	x := s.left[0]
	s.left = s.left[1:]
	return x
}

// enter goes on to a later state.
func (s *scan) enter(state int) bool {
	if s.state >= state {
		return false
	}
	s.state = state
	return true
}

// element reads a marker, with the variable that belongs to it, or a parameter.
func (s *scan) element(x api.Form) bool {
	if !trees.Marker(x) {
		return s.parameter(x)
	}
	switch x.Text {
	case "&WHOLE":
		return s.macro && !s.inner && s.state == atStart && s.enter(atRequired) && s.follows(Whole)
	case "&OPTIONAL":
		return s.enter(atOptional)
	case "&REST", "&BODY":
		return s.enter(atRest) && s.follows(Rest)
	case "&KEY":
		s.list.Keys = true
		return s.enter(atKey)
	case "&ALLOW-OTHER-KEYS":
		s.list.Allow = true
		return s.state == atKey && s.enter(atAllow)
	case "&AUX":
		return s.enter(atAux)
	}
	if !s.macro || s.inner || s.environment {
		return false
	}
	s.environment = true
	s.enter(atRequired) // &WHOLE stands ahead of all
	return s.follows(Environment)
}

// follows reads the variable behind a marker.
func (s *scan) follows(kind int) bool {
	return len(s.left) > 0 && s.variable(kind, s.take())
}

func (s *scan) variable(kind int, x api.Form) bool {
	s.add(Item{Kind: kind, Var: trees.Copy(x), Init: forms.Nil()})
	return trees.Variable(x)
}

func (s *scan) add(item Item) { s.list.Items = append(s.list.Items, item) }

// parameter reads a parameter of the group that was begun last.
func (s *scan) parameter(x api.Form) bool {
	item := Item{Init: forms.Nil()}
	ok := false
	switch s.state {
	case atStart, atRequired:
		s.state = atRequired
		item.Kind = Required
		ok = s.target(&item, x)
	case atOptional:
		item.Kind = Optional
		ok = s.chosen(&item, x, s.target)
	case atKey:
		item.Kind = Key
		ok = s.chosen(&item, x, s.keyed)
	case atAux:
		item.Kind = Aux
		ok = auxiliary(&item, x)
	}
	s.add(item)
	return ok
}

// target reads a variable, or the pattern of a macro.
func (s *scan) target(item *Item, x api.Form) bool {
	if trees.Variable(x) {
		item.Var = trees.Copy(x)
		return true
	}
	if !s.macro || x.Kind != api.FormCons && !forms.IsNil(x) {
		return false
	}
	pattern, ok := read(x, true, true)
	item.Pattern = &pattern
	return ok
}

// chosen reads a parameter that may be missing: a variable, or a list whose first element is read by a function.
func (s *scan) chosen(item *Item, x api.Form, first func(*Item, api.Form) bool) bool {
	if trees.Variable(x) {
		return first(item, x)
	}
	parts, ok := trees.Items(x)
	if !ok || len(parts) < 1 || len(parts) > 3 || !first(item, parts[0]) {
		return false
	}
	if len(parts) > 1 {
		item.Init = trees.Copy(parts[1])
	}
	if len(parts) < 3 {
		return true
	}
	item.Given = trees.Copy(parts[2])
	return trees.Variable(parts[2])
}

// keyed reads a variable that names its key, or a list of a key and what it is bound to.
func (s *scan) keyed(item *Item, x api.Form) bool {
	if trees.Variable(x) {
		item.Key = forms.Symbol(trees.Keyword, x.Text)
		return s.target(item, x)
	}
	parts, ok := trees.Items(x)
	if !ok || len(parts) != 2 || parts[0].Kind != api.FormSymbol {
		return false
	}
	item.Key = trees.Copy(parts[0])
	return s.target(item, parts[1])
}

// auxiliary reads an auxiliary variable.
func auxiliary(item *Item, x api.Form) bool {
	if trees.Variable(x) {
		item.Var = trees.Copy(x)
		return true
	}
	parts, ok := trees.Items(x)
	if !ok || len(parts) < 1 || len(parts) > 2 || !trees.Variable(parts[0]) {
		return false
	}
	item.Var = trees.Copy(parts[0])
	if len(parts) > 1 {
		item.Init = trees.Copy(parts[1])
	}
	return true
}
