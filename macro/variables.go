package macro

import (
	"slices"

	"commonform/api"
	"commonform/forms"
	"commonform/trees"
)

func integer(s string) api.Form { return api.Form{Kind: api.FormInt, Text: s} }

func setq(v, value api.Form) api.Form { return trees.Call("SETQ", v, value) }

// psetq expands (PSETQ v e ..).
func (m *maker) psetq(args []api.Form) api.Form {
	need(len(args)%2 == 0)
	var bindings, sets []api.Form
	for pair := range slices.Chunk(args, 2) {
		a := m.symbol()
		bindings = append(bindings, trees.List(a, pair[1]))
		sets = append(sets, variable(pair[0]), a)
	}
	return trees.Call("LET", trees.List(bindings...), trees.Call("SETQ", sets...), forms.Nil())
}

func (m *maker) do(args []api.Form) api.Form { return m.steps("LET", "PSETQ", args) }

func (m *maker) doStar(args []api.Form) api.Form { return m.steps("LET*", "SETQ", args) }

// steps expands (DO ((v [init [step]]) ..) (end res ..) decl .. form ..).
func (m *maker) steps(binder, setter string, args []api.Form) api.Form {
	counted(args, 2, -1)
	var bindings, sets []api.Form
	for _, f := range proper(args[0]) {
		parts := []api.Form{f}
		if f.Kind != api.FormSymbol {
			parts = counted(proper(f), 1, 3)
		}
		v := variable(parts[0])
		if len(parts) == 1 {
			bindings = append(bindings, v)
		} else {
			bindings = append(bindings, trees.List(v, parts[1]))
		}
		if len(parts) == 3 {
			sets = append(sets, v, parts[2])
		}
	}
	end := counted(proper(args[1]), 1, -1)
	declarations, body := divided(args[2:])
	a := m.symbol()
	leave := trees.Call("IF", end[0], trees.Call("RETURN-FROM", forms.Nil(), trees.Call("PROGN", end[1:]...)))
	again := []api.Form{trees.Call(setter, sets...), trees.Call("GO", a)}
	loop := trees.Call("TAGBODY", slices.Concat([]api.Form{a, leave}, body, again)...)
	return trees.Call("BLOCK", forms.Nil(), call(binder, append(declarations, loop), trees.List(bindings...)))
}

func (m *maker) prog(args []api.Form) api.Form { return m.program("LET", args) }

func (m *maker) progStar(args []api.Form) api.Form { return m.program("LET*", args) }

// program expands (PROG (binding ..) decl .. form ..).
func (m *maker) program(binder string, args []api.Form) api.Form {
	counted(args, 1, -1)
	proper(args[0])
	declarations, body := divided(args[1:])
	return trees.Call("BLOCK", forms.Nil(), call(binder, append(declarations, trees.Call("TAGBODY", body...)), args[0]))
}

// counter reads the variable, the form and the result of DOLIST or DOTIMES.
func counter(f api.Form) (v, x, result api.Form) {
	parts := counted(proper(f), 2, 3)
	result = forms.Nil()
	if len(parts) == 3 {
		result = parts[2]
	}
	return variable(parts[0]), parts[1], result
}

// repeated returns the form that evaluates a body, and then others, as long as a test is true.
func (m *maker) repeated(test api.Form, ahead, body []api.Form, behind api.Form) api.Form {
	b := m.symbol()
	round := append(ahead, trees.Call("TAGBODY", body...), behind, trees.Call("GO", b))
	return trees.Call("TAGBODY", b, trees.Call("IF", test, trees.Call("PROGN", round...)))
}

// dolist expands (DOLIST (v list [res]) decl .. form ..).
func (m *maker) dolist(args []api.Form) api.Form {
	counted(args, 1, -1)
	v, list, result := counter(args[0])
	declarations, body := divided(args[1:])
	a := m.symbol()
	loop := m.repeated(a, []api.Form{setq(v, trees.Call("CAR", a))}, body, setq(a, trees.Call("CDR", a)))
	bindings := trees.List(trees.List(a, list), trees.List(v, forms.Nil()))
	inner := append(declarations, loop, setq(v, forms.Nil()), result)
	return trees.Call("BLOCK", forms.Nil(), call("LET", inner, bindings))
}

// dotimes expands (DOTIMES (v n [res]) decl .. form ..).
func (m *maker) dotimes(args []api.Form) api.Form {
	counted(args, 1, -1)
	v, n, result := counter(args[0])
	declarations, body := divided(args[1:])
	a := m.symbol()
	loop := m.repeated(trees.Call("<", v, a), nil, body, setq(v, trees.Call("+", v, integer("1"))))
	bindings := trees.List(trees.List(a, n), trees.List(v, integer("0")))
	return trees.Call("BLOCK", forms.Nil(), call("LET", append(declarations, loop, result), bindings))
}

// valuesBind expands (MULTIPLE-VALUE-BIND (v ..) form decl .. body ..).
func (m *maker) valuesBind(args []api.Form) api.Form {
	counted(args, 2, -1)
	list := []api.Form{trees.Name("&OPTIONAL")}
	for _, v := range proper(args[0]) {
		list = append(list, variable(v))
	}
	list = append(list, trees.Name("&REST"), m.symbol())
	return trees.Call("MULTIPLE-VALUE-CALL", function(trees.List(list...), args[2:]...), args[1])
}

func (m *maker) valuesList(args []api.Form) api.Form {
	return trees.Call("MULTIPLE-VALUE-CALL", trees.Call("FUNCTION", trees.Name("LIST")), counted(args, 1, 1)[0])
}

// valuesSetq expands (MULTIPLE-VALUE-SETQ (v ..) form).
func (m *maker) valuesSetq(args []api.Form) api.Form {
	counted(args, 2, 2)
	var fresh, sets []api.Form
	for _, v := range proper(args[0]) {
		a := m.symbol()
		fresh = append(fresh, a)
		sets = append(sets, variable(v), a)
	}
	if len(fresh) == 0 {
		return trees.Call("PROG1", args[1])
	}
	return trees.Call("MULTIPLE-VALUE-BIND", trees.List(fresh...), args[1], trees.Call("SETQ", sets...), fresh[0])
}

func (m *maker) nthValue(args []api.Form) api.Form {
	counted(args, 2, 2)
	return trees.Call("NTH", args[0], trees.Call("MULTIPLE-VALUE-LIST", args[1]))
}
