package loop

import (
	"commonform/api"
	"commonform/forms"
	"commonform/place"
	"commonform/trees"
)

// Expand returns the form of clauses, and the number of the next fresh symbol.
func Expand(l []Clause, fresh int) (api.Form, int, api.Errno) {
	if e := Check(l); e != api.OK {
		return api.Form{}, 0, e
	}
	if !startsAt(fresh) {
		return api.Form{}, 0, api.ErrArg
	}
	m := maker{fresh: fresh}
	made := m.loop(l)
	return finished(made, m.fresh)
}

// maker makes the parts of an expansion, with fresh symbols.
type maker struct {
	fresh                          int
	block, again, end              api.Form // the name of the block, and the tags
	hidden                         api.Form // the variable of clauses without one
	bindings, before, body, behind []api.Form
}

// symbol takes a new symbol.
func (m *maker) symbol() api.Form {
	m.fresh++
	return place.Fresh(m.fresh - 1)
}

func (m *maker) bind(v, value api.Form) { m.bindings = append(m.bindings, trees.List(v, value)) }

// bound binds a new symbol.
func (m *maker) bound(value api.Form) api.Form {
	g := m.symbol()
	m.bind(g, value)
	return g
}

// does adds forms to the body.
func (m *maker) does(l ...api.Form) { m.body = append(m.body, l...) }

func setq(v, value api.Form) api.Form { return trees.Call("SETQ", v, value) }

func (m *maker) leave(value api.Form) api.Form {
	return trees.Call("RETURN-FROM", m.block, value)
}

// stopIf ends the loop where a test is true, and stopUnless where it is not.
func (m *maker) stopIf(test api.Form) api.Form { return trees.Call("IF", test, m.stop()) }

func (m *maker) stopUnless(test api.Form) api.Form {
	return trees.Call("IF", test, forms.Nil(), m.stop())
}

func (m *maker) stop() api.Form { return trees.Call("GO", m.end) }

// loop returns the form of right clauses.
func (m *maker) loop(l []Clause) api.Form {
	m.block = forms.Nil()
	if len(l) > 0 && l[0].Kind == Named {
		m.block = l[0].Var
	}
	m.again = m.symbol()
	m.end = m.symbol()
	result := m.results(l)
	for _, c := range l {
		m.clause(c)
	}
	steps := append(append(m.before, m.again), m.body...)
	steps = append(append(steps, trees.Call("GO", m.again), m.end), m.behind...)
	let := trees.Call("LET*", trees.List(m.bindings...), trees.Call("TAGBODY", steps...), result)
	return trees.Call("BLOCK", m.block, let)
}

// results binds the variables of clauses with results, and returns the result of the loop.
func (m *maker) results(l []Clause) api.Form {
	result := forms.Nil()
	for c := range each(l) {
		switch {
		case group(c.Kind) != noGroup && forms.IsNil(c.Var) && m.hidden.Kind == 0:
			m.hidden = m.bound(nothingYet(c.Kind))
			result = m.hidden
		case c.Kind == Always, c.Kind == Never: // then nothing is hidden
			result = trees.Name("T")
		}
	}
	met := map[[2]string]bool{}
	for c := range each(l) {
		name := [2]string{c.Var.Home, c.Var.Text}
		if group(c.Kind) != noGroup && !forms.IsNil(c.Var) && !met[name] {
			met[name] = true
			m.bind(c.Var, nothingYet(c.Kind))
		}
	}
	return result
}

// nothingYet returns the result of a loop that has not begun.
func nothingYet(kind int) api.Form {
	if group(kind) == ofSums {
		return integer("0")
	}
	return forms.Nil()
}

// clause adds what a clause says.
func (m *maker) clause(c Clause) {
	switch c.Kind {
	case Named:
	case With:
		m.bind(c.Var, c.Forms[0])
	case Initially:
		m.before = append(m.before, c.Forms...)
	case Finally:
		m.behind = append(m.behind, c.Forms...)
	case Arithmetic:
		m.numbers(c)
	case In, On:
		m.along(c)
	case Across:
		m.across(c)
	case Equals:
		m.equals(c)
	case Repeat:
		g := m.bound(c.Forms[0])
		m.does(m.stopUnless(trees.Call("<", integer("0"), g)), setq(g, trees.Call("-", g, integer("1"))))
	case While:
		m.does(m.stopUnless(c.Forms[0]))
	case Until:
		m.does(m.stopIf(c.Forms[0]))
	case Always:
		m.does(trees.Call("IF", c.Forms[0], forms.Nil(), m.leave(forms.Nil())))
	case Never:
		m.does(trees.Call("IF", c.Forms[0], m.leave(forms.Nil())))
	case Thereis:
		g := m.symbol()
		m.does(with(g, c.Forms[0], trees.Call("IF", g, m.leave(g))))
	default:
		m.does(m.selected(c))
	}
}

// with returns the form that evaluates another one with a variable.
func with(v, value, body api.Form) api.Form {
	return trees.Call("LET*", trees.List(trees.List(v, value)), body)
}

// numbers steps a variable through numbers.
func (m *maker) numbers(c Clause) {
	way := int(c.Forms[how].Text[0] - '0')
	g := m.bound(c.Forms[first])
	if end := c.Forms[limit]; !forms.IsNil(end) {
		compare := [...]string{">", ">=", "<", "<="}[way]
		m.does(m.stopIf(trees.Call(compare, g, m.bound(end))))
	}
	by := c.Forms[step]
	if !place.Constant(by) {
		by = m.bound(by)
	}
	m.bind(c.Var, forms.Nil())
	operator := "+"
	if way >= down {
		operator = "-"
	}
	m.does(setq(c.Var, g), setq(g, trees.Call(operator, g, by)))
}

// along steps a variable through a list, or its tails.
func (m *maker) along(c Clause) {
	g := m.bound(c.Forms[0])
	next := trees.Call("CDR", g)
	if len(c.Forms) == 2 {
		next = trees.Call("FUNCALL", m.bound(c.Forms[1]), g)
	}
	m.bind(c.Var, forms.Nil())
	value := g
	if c.Kind == In {
		value = trees.Call("CAR", g)
	}
	m.does(m.stopIf(trees.Call("ATOM", g)), setq(c.Var, value), setq(g, next))
}

// across steps a variable through the elements of an array.
func (m *maker) across(c Clause) {
	g := m.bound(c.Forms[0])
	k := m.bound(integer("0"))
	size := m.bound(trees.Call("LENGTH", g))
	m.bind(c.Var, forms.Nil())
	m.does(m.stopUnless(trees.Call("<", k, size)), setq(c.Var, trees.Call("AREF", g, k)), setq(k, trees.Call("+", k, integer("1"))))
}

// equals gives a variable another value each time.
func (m *maker) equals(c Clause) {
	if len(c.Forms) == 1 {
		m.bind(c.Var, forms.Nil())
		m.does(setq(c.Var, c.Forms[0]))
		return
	}
	g := m.bound(trees.Name("T"))
	m.bind(c.Var, forms.Nil())
	m.does(setq(c.Var, trees.Call("IF", g, c.Forms[0], c.Forms[1])), setq(g, forms.Nil()))
}

// selected returns what a selectable clause does.
func (m *maker) selected(c Clause) api.Form {
	v := c.Var
	if forms.IsNil(v) {
		v = m.hidden
	}
	switch c.Kind {
	case Do:
		return trees.Call("PROGN", c.Forms...)
	case Return:
		return m.leave(c.Forms[0])
	case If, Unless:
		then, other := m.group(c.Then), m.group(c.Else)
		if c.Kind == Unless {
			then, other = other, then
		}
		return trees.Call("IF", c.Forms[0], then, other)
	case Collect:
		return setq(v, trees.Call("APPEND", v, trees.Call("LIST", c.Forms[0])))
	case Append:
		return setq(v, trees.Call("APPEND", v, c.Forms[0]))
	case Sum:
		return setq(v, trees.Call("+", v, c.Forms[0]))
	case Count:
		return trees.Call("IF", c.Forms[0], setq(v, trees.Call("+", v, integer("1"))))
	}
	better := "MAX"
	if c.Kind == Minimize {
		better = "MIN"
	}
	g := m.symbol()
	return with(g, c.Forms[0], setq(v, trees.Call("IF", v, trees.Call(better, v, g), g)))
}

// group returns what several selectable clauses do.
func (m *maker) group(l []Clause) api.Form {
	var all []api.Form
	for _, c := range l {
		all = append(all, m.selected(c))
	}
	return trees.Call("PROGN", all...)
}
