package macro

import (
	"commonform/api"
	"commonform/forms"
	"commonform/lambda"
	"commonform/trees"
)

// functionName returns the symbol that a name means, and the name of its block.
func functionName(f api.Form) (name, block api.Form) {
	if l, _ := trees.Items(f); len(l) == 2 && forms.Is(l[0], trees.Lisp, "SETF") {
		s := symbol(l[1])
		return forms.Symbol(s.Home, "(SETF "+s.Text+")"), s
	}
	return symbol(f), f
}

// performed returns the form that evaluates some forms, and gives a name.
func performed(name api.Form, l ...api.Form) api.Form {
	return trees.Call("PROGN", append(l, quoted(name))...)
}

// setFunction returns the form that makes a function that of a name.
func setFunction(name, function api.Form) api.Form {
	return trees.Call("%FSET", quoted(name), function)
}

// defun expands (DEFUN name list [doc] decl .. form ..).
func (m *maker) defun(args []api.Form) api.Form {
	counted(args, 2, -1)
	name, block := functionName(args[0])
	declarations, body := divided(undocumented(args[2:]))
	named := append(declarations, call("BLOCK", body, block))
	return performed(name, setFunction(name, function(args[1], named...)))
}

// defvar expands (DEFVAR s [v [doc]]).
func (m *maker) defvar(args []api.Form) api.Form {
	counted(args, 1, 3)
	s := variable(args[0])
	if len(args) == 1 {
		return quoted(s)
	}
	return performed(s, trees.Call("IF", trees.Call("BOUNDP", quoted(s)), forms.Nil(), set(args)))
}

// set returns the form that gives a special variable its value: s v [doc].
func set(args []api.Form) api.Form {
	for _, doc := range args[2:] {
		need(doc.Kind == api.FormString)
	}
	return trees.Call("SET", quoted(args[0]), args[1])
}

// defparameter expands (DEFPARAMETER s v [doc]).
func (m *maker) defparameter(args []api.Form) api.Form {
	counted(args, 2, 3)
	return performed(variable(args[0]), set(args))
}

func (m *maker) defmacro(args []api.Form) api.Form { return quoted(symbol(counted(args, 1, -1)[0])) }

func (m *maker) declaim([]api.Form) api.Form { return forms.Nil() }

// required returns the number of required parameters of a function.
func required(list api.Form) int {
	l, e := lambda.Parse(list, false)
	need(e == api.OK)
	n := 0
	for _, item := range l.Items {
		if item.Kind == lambda.Required {
			n++
		}
	}
	return n
}
