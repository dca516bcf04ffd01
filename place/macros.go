package place

import (
	"slices"

	"commonform/api"
	"commonform/forms"
	"commonform/trees"
)

// macros returns what expands the macros of this layer, by their names: it gets what stands behind the name.
func macros() map[string]func(*maker, []api.Form) (api.Form, api.Errno) {
	return map[string]func(*maker, []api.Form) (api.Form, api.Errno){
		"SETF":    (*maker).setf,
		"PSETF":   (*maker).psetf,
		"INCF":    (*maker).incf,
		"DECF":    (*maker).decf,
		"PUSH":    (*maker).push,
		"PUSHNEW": (*maker).pushNew,
		"POP":     (*maker).pop,
		"ROTATEF": (*maker).rotatef,
		"SHIFTF":  (*maker).shiftf,
	}
}

// one returns a place with one value.
func (m *maker) one(f api.Form) (Place, bool) {
	p, ok := m.place(f)
	return p, ok && len(p.Stores) == 1
}

// all returns places with one value each.
func (m *maker) all(l []api.Form) ([]Place, bool) {
	var places []Place
	for _, f := range l {
		p, ok := m.one(f)
		if !ok {
			return nil, false
		}
		places = append(places, p)
	}
	return places, true
}

// bindings returns those of a place's subforms.
func (p Place) bindings() []api.Form {
	var l []api.Form
	for i, t := range p.Temps {
		l = append(l, trees.List(t, p.Values[i]))
	}
	return l
}

// store returns the binding of the only value of a place.
func (p Place) store(value api.Form) api.Form { return trees.List(p.Stores[0], value) }

func letStar(bindings []api.Form, body ...api.Form) api.Form {
	return trees.Call("LET*", append([]api.Form{trees.List(bindings...)}, body...)...)
}

func (m *maker) setf(args []api.Form) (api.Form, api.Errno) {
	if len(args)%2 != 0 {
		return api.Form{}, api.ErrForm
	}
	var l []api.Form
	for pair := range slices.Chunk(args, 2) {
		set, ok := m.set(pair[0], pair[1])
		if !ok {
			return api.Form{}, ErrPlace
		}
		l = append(l, set)
	}
	switch len(l) {
	case 0:
		return forms.Nil(), api.OK
	case 1:
		return l[0], api.OK
	}
	return trees.Call("PROGN", l...), api.OK
}

// set returns the form that writes a value to a place.
func (m *maker) set(place, value api.Form) (api.Form, bool) {
	if named(place) {
		return trees.Call("SETQ", place, value), true
	}
	p, ok := m.place(place)
	switch {
	case !ok:
		return api.Form{}, false
	case len(p.Stores) == 1:
		return letStar(append(p.bindings(), p.store(value)), p.Write), true
	}
	return letStar(p.bindings(), trees.Call("MULTIPLE-VALUE-BIND", trees.List(p.Stores...), value, p.Write)), true
}

func (m *maker) psetf(args []api.Form) (api.Form, api.Errno) {
	if len(args)%2 != 0 {
		return api.Form{}, api.ErrForm
	}
	var bindings, writes []api.Form
	for pair := range slices.Chunk(args, 2) {
		p, ok := m.one(pair[0])
		if !ok {
			return api.Form{}, ErrPlace
		}
		bindings = append(append(bindings, p.bindings()...), p.store(pair[1]))
		writes = append(writes, p.Write)
	}
	return letStar(bindings, append(writes, forms.Nil())...), api.OK
}

func (m *maker) incf(args []api.Form) (api.Form, api.Errno) { return m.step("+", args) }

func (m *maker) decf(args []api.Form) (api.Form, api.Errno) { return m.step("-", args) }

// step returns the form that changes a number by another one.
func (m *maker) step(operator string, args []api.Form) (api.Form, api.Errno) {
	if len(args) < 1 || len(args) > 2 {
		return api.Form{}, api.ErrForm
	}
	p, ok := m.one(args[0])
	if !ok {
		return api.Form{}, ErrPlace
	}
	by := api.Form{Kind: api.FormInt, Text: "1"}
	if len(args) == 2 {
		by = args[1]
	}
	bindings := p.bindings()
	if !Constant(by) {
		s := m.symbol()
		bindings = append(bindings, trees.List(s, by))
		by = s
	}
	return letStar(append(bindings, p.store(trees.Call(operator, p.Read, by))), p.Write), api.OK
}

// item reads what is pushed, and where to: it returns a symbol for the item, the place, and bindings for the item and the subforms of the place.
func (m *maker) item(args []api.Form) (s api.Form, p Place, bindings []api.Form, e api.Errno) {
	if len(args) != 2 {
		return api.Form{}, Place{}, nil, api.ErrForm
	}
	s = m.symbol()
	p, ok := m.one(args[1])
	if !ok {
		return api.Form{}, Place{}, nil, ErrPlace
	}
	return s, p, append([]api.Form{trees.List(s, args[0])}, p.bindings()...), api.OK
}

func (m *maker) push(args []api.Form) (api.Form, api.Errno) {
	s, p, bindings, e := m.item(args)
	if e != api.OK {
		return api.Form{}, e
	}
	return letStar(append(bindings, p.store(trees.Call("CONS", s, p.Read))), p.Write), api.OK
}

func (m *maker) pushNew(args []api.Form) (api.Form, api.Errno) {
	s, p, bindings, e := m.item(args)
	if e != api.OK {
		return api.Form{}, e
	}
	r := m.symbol()
	add := letStar([]api.Form{p.store(trees.Call("CONS", s, r))}, p.Write)
	return letStar(append(bindings, trees.List(r, p.Read)), trees.Call("IF", trees.Call("MEMBER", s, r), r, add)), api.OK
}

func (m *maker) pop(args []api.Form) (api.Form, api.Errno) {
	if len(args) != 1 {
		return api.Form{}, api.ErrForm
	}
	p, ok := m.one(args[0])
	if !ok {
		return api.Form{}, ErrPlace
	}
	r := m.symbol()
	bindings := append(p.bindings(), trees.List(r, p.Read), p.store(trees.Call("CDR", r)))
	return letStar(bindings, p.Write, trees.Call("CAR", r)), api.OK
}

func (m *maker) rotatef(args []api.Form) (api.Form, api.Errno) {
	places, ok := m.all(args)
	if !ok {
		return api.Form{}, ErrPlace
	}
	if len(places) == 0 {
		return forms.Nil(), api.OK
	}
	bindings, writes := shifted(places, nil, places[0].Read)
	return letStar(bindings, append(writes, forms.Nil())...), api.OK
}

func (m *maker) shiftf(args []api.Form) (api.Form, api.Errno) {
	if len(args) < 2 {
		return api.Form{}, api.ErrForm
	}
	last := len(args) - 1
	places, ok := m.all(args[:last])
	if !ok {
		return api.Form{}, ErrPlace
	}
	r := m.symbol()
	bindings, writes := shifted(places, []api.Form{trees.List(r, places[0].Read)}, args[last])
	return letStar(bindings, append(writes, r)...), api.OK
}

// shifted returns bindings for all places, with some between those of subforms and of values, where each place gets what the next one has, the last one another value; and the forms that write all of them.
func shifted(places []Place, between []api.Form, last api.Form) (bindings, writes []api.Form) {
	for _, p := range places {
		bindings = append(bindings, p.bindings()...)
	}
	bindings = append(bindings, between...)
	for i, p := range places {
		value := last
		if i+1 < len(places) {
			value = places[i+1].Read
		}
		bindings = append(bindings, p.store(value))
		writes = append(writes, p.Write)
	}
	return bindings, writes
}
