package condition

import (
	"commonform/api"
	"commonform/forms"
	"commonform/place"
	"commonform/trees"
)

// macros returns what expands the macros of this layer, by their names: it gets what stands behind the name, and reports whether that is as it must be.
func macros() map[string]func(*maker, []api.Form) (api.Form, bool) {
	return map[string]func(*maker, []api.Form) (api.Form, bool){
		"HANDLER-BIND":        (*maker).handlerBind,
		"RESTART-BIND":        (*maker).restartBind,
		"HANDLER-CASE":        (*maker).handlerCase,
		"RESTART-CASE":        (*maker).restartCase,
		"IGNORE-ERRORS":       (*maker).ignoreErrors,
		"WITH-SIMPLE-RESTART": (*maker).withSimpleRestart,
		"DEFINE-CONDITION":    (*maker).defineCondition,
		"ASSERT":              (*maker).assert,
		"CHECK-TYPE":          (*maker).checkType,
	}
}

// maker makes expansions, with fresh symbols.
type maker struct{ fresh int }

// symbol takes a new symbol.
func (m *maker) symbol() api.Form {
	m.fresh++
	return place.Fresh(m.fresh - 1)
}

// call returns the list of a symbol, some forms, and a body.
func call(name string, body []api.Form, ahead ...api.Form) api.Form {
	return trees.Call(name, append(ahead, body...)...)
}

func quoted(x api.Form) api.Form { return trees.Call("QUOTE", x) }

// pairs returns the forms that make the conses of a list of bindings.
func pairs(f api.Form, named bool) ([]api.Form, bool) {
	l, ok := trees.Items(f)
	if !ok {
		return nil, false
	}
	var conses []api.Form
	for _, x := range l {
		parts, _ := trees.Items(x)
		if len(parts) != 2 || named && parts[0].Kind != api.FormSymbol {
			return nil, false
		}
		conses = append(conses, trees.Call("CONS", quoted(parts[0]), parts[1]))
	}
	return conses, true
}

// binding returns the form that evaluates a body with a new value of a variable.
func binding(name, join string, added api.Form, body []api.Form) api.Form {
	variable := trees.Name(name)
	value := trees.Call(join, added, trees.Call("SYMBOL-VALUE", quoted(variable)))
	return call("PROGV", body, quoted(trees.List(variable)), trees.Call("LIST", value))
}

func (m *maker) handlerBind(args []api.Form) (api.Form, bool) {
	if len(args) == 0 {
		return api.Form{}, false
	}
	conses, ok := pairs(args[0], false)
	return binding(handlers, "CONS", trees.Call("LIST", conses...), args[1:]), ok
}

func (m *maker) restartBind(args []api.Form) (api.Form, bool) {
	if len(args) == 0 {
		return api.Form{}, false
	}
	conses, ok := pairs(args[0], true)
	return binding(restarts, "APPEND", trees.Call("LIST", conses...), args[1:]), ok
}

// leaving is how a form is left to clauses: which macro binds their functions, what parameters these have, and what a clause does with a variable that has what the function was given.
type leaving struct {
	binder string
	params func(g api.Form) api.Form
	result func(c Clause, v api.Form) api.Form
}

// cases returns the form that evaluates x, and leaves to clauses.
func (m *maker) cases(x api.Form, clauses []Clause, way leaving) api.Form {
	k := m.symbol()
	v := m.symbol()
	var tags []api.Form
	for range clauses {
		tags = append(tags, m.symbol())
	}
	g := m.symbol()
	var bindings, segments []api.Form
	for i, c := range clauses {
		function := trees.Call("LAMBDA", way.params(g), trees.Call("SETQ", v, g), trees.Call("GO", tags[i]))
		bindings = append(bindings, trees.List(c.Name, function))
		segments = append(segments, tags[i], trees.Call("RETURN-FROM", k, way.result(c, v)))
	}
	all := trees.Call("RETURN-FROM", k, trees.Call(way.binder, trees.List(bindings...), x))
	let := trees.Call("LET*", trees.List(trees.List(v, forms.Nil())), call("TAGBODY", segments, all))
	return trees.Call("BLOCK", k, let)
}

func (m *maker) handlerCase(args []api.Form) (api.Form, bool) {
	x, clauses, ok := divided(args, true)
	if !ok {
		return api.Form{}, false
	}
	return m.cases(x, clauses, leaving{
		binder: "HANDLER-BIND",
		params: func(g api.Form) api.Form { return trees.List(g) },
		result: func(c Clause, v api.Form) api.Form {
			params, _ := trees.Items(c.Params)
			if len(params) == 0 {
				return call("PROGN", c.Body)
			}
			return call("LET*", c.Body, trees.List(trees.List(params[0], v)))
		},
	}), true
}

func (m *maker) restartCase(args []api.Form) (api.Form, bool) {
	x, clauses, ok := divided(args, false)
	if !ok {
		return api.Form{}, false
	}
	return m.cases(x, clauses, leaving{
		binder: "RESTART-BIND",
		params: func(g api.Form) api.Form { return trees.List(trees.Name("&REST"), g) },
		result: func(c Clause, v api.Form) api.Form {
			return trees.Call("APPLY", call("LAMBDA", c.Body, c.Params), v)
		},
	}), true
}

func (m *maker) ignoreErrors(args []api.Form) (api.Form, bool) {
	g := m.symbol()
	clause := trees.List(trees.Name("ERROR"), trees.List(g), trees.Call("VALUES", forms.Nil(), g))
	return trees.Call("HANDLER-CASE", call("PROGN", args), clause), true
}

func (m *maker) withSimpleRestart(args []api.Form) (api.Form, bool) {
	if len(args) == 0 {
		return api.Form{}, false
	}
	parts, _ := trees.Items(args[0])
	if len(parts) == 0 || parts[0].Kind != api.FormSymbol {
		return api.Form{}, false
	}
	clause := trees.List(parts[0], forms.Nil(), trees.Call("VALUES", forms.Nil(), trees.Name("T")))
	return trees.Call("RESTART-CASE", call("PROGN", args[1:]), clause), true
}

func (m *maker) defineCondition(args []api.Form) (api.Form, bool) {
	if len(args) < 3 || args[0].Kind != api.FormSymbol {
		return api.Form{}, false
	}
	supers, ok := trees.Items(args[1])
	if _, slots := trees.Items(args[2]); !ok || !slots {
		return api.Form{}, false
	}
	above := args[1]
	if len(supers) == 0 {
		above = trees.List(trees.Name("CONDITION"))
	}
	return trees.Call("DEFCLASS", args[0], above, args[2]), true
}

func (m *maker) assert(args []api.Form) (api.Form, bool) {
	if len(args) != 1 {
		return api.Form{}, false
	}
	return checked(args[0], "SIMPLE-ERROR"), true
}

func (m *maker) checkType(args []api.Form) (api.Form, bool) {
	if len(args) != 2 {
		return api.Form{}, false
	}
	return checked(trees.Call("TYPEP", args[0], quoted(args[1])), "TYPE-ERROR"), true
}

// checked returns the form that signals an error of a type, unless a test is true.
func checked(test api.Form, name string) api.Form {
	return trees.Call("IF", test, forms.Nil(), trees.Call("ERROR", quoted(trees.Name(name))))
}
