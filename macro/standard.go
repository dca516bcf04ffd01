package macro

import (
	"strconv"

	"commonform/api"
	"commonform/forms"
	"commonform/lambda"
	"commonform/reader"
	"commonform/trees"
)

// standard returns what expands the standard macros of COMMON-LISP, by their names: it gets what stands behind the name.
func standard() map[string]func(*maker, []api.Form) api.Form {
	return map[string]func(*maker, []api.Form) api.Form{
		"LAMBDA":              (*maker).lambda,
		"WHEN":                (*maker).when,
		"UNLESS":              (*maker).unless,
		"AND":                 (*maker).and,
		"OR":                  (*maker).or,
		"COND":                (*maker).cond,
		"CASE":                (*maker).byKeys,
		"TYPECASE":            (*maker).byTypes,
		"PROG1":               (*maker).prog1,
		"PROG2":               (*maker).prog2,
		"RETURN":              (*maker).leave,
		"PSETQ":               (*maker).psetq,
		"DO":                  (*maker).do,
		"DO*":                 (*maker).doStar,
		"PROG":                (*maker).prog,
		"PROG*":               (*maker).progStar,
		"DOLIST":              (*maker).dolist,
		"DOTIMES":             (*maker).dotimes,
		"MULTIPLE-VALUE-BIND": (*maker).valuesBind,
		"MULTIPLE-VALUE-LIST": (*maker).valuesList,
		"MULTIPLE-VALUE-SETQ": (*maker).valuesSetq,
		"NTH-VALUE":           (*maker).nthValue,
		"DEFUN":               (*maker).defun,
		"DEFVAR":              (*maker).defvar,
		"DEFPARAMETER":        (*maker).defparameter,
		"DEFCONSTANT":         (*maker).defparameter,
		"DEFMACRO":            (*maker).defmacro,
		"DECLAIM":             (*maker).declaim,
		"DESTRUCTURING-BIND":  (*maker).destructuringBind,
		"DEFCLASS":            (*maker).defclass,
		"DEFGENERIC":          (*maker).defgeneric,
		"DEFMETHOD":           (*maker).defmethod,
		"WITH-SLOTS":          (*maker).withSlots,
	}
}

// maker makes expansions, with fresh variables.
type maker struct{ fresh int }

// symbol takes a fresh variable.
func (m *maker) symbol() api.Form {
	v := forms.Symbol("%", strconv.Itoa(m.fresh))
	m.fresh++
	return v
}

// need leaves the expansion with ErrForm, unless all is right.
func need(ok bool) {
	if !ok {
		panic(api.ErrForm)
	}
}

// must leaves the expansion with an error, if there is one.
func must(e api.Errno) {
	if e != api.OK {
		panic(e)
	}
}

// counted returns some forms, of which there must be so many (-1: any number).
func counted(l []api.Form, least, most int) []api.Form {
	need(len(l) >= least && (most < 0 || len(l) <= most))
	return l
}

// proper returns the elements of a form that must be a proper list.
func proper(f api.Form) []api.Form {
	l, ok := trees.Items(f)
	need(ok)
	return l
}

// variable returns a form that must be a variable.
func variable(f api.Form) api.Form {
	need(trees.Variable(f))
	return f
}

// symbol returns a form that must be a symbol.
func symbol(f api.Form) api.Form {
	need(f.Kind == api.FormSymbol)
	return f
}

// undocumented returns a body without the string that documents it.
func undocumented(l []api.Form) []api.Form {
	if len(l) > 1 && l[0].Kind == api.FormString {
		return l[1:]
	}
	return l
}

func truth() api.Form { return trees.Name("T") }

func quoted(x api.Form) api.Form { return trees.Call("QUOTE", x) }

// call returns the list of a symbol, some forms, and others behind them.
func call(name string, behind []api.Form, ahead ...api.Form) api.Form {
	return trees.Call(name, append(ahead, behind...)...)
}

// function returns the form of a function without a name.
func function(list api.Form, body ...api.Form) api.Form {
	return trees.Call("FUNCTION", call("LAMBDA", body, list))
}

// let returns the form that evaluates a body with a variable.
func let(v, value api.Form, body ...api.Form) api.Form {
	return call("LET", body, trees.List(trees.List(v, value)))
}

func (m *maker) backquote(args []api.Form) api.Form {
	f, e := reader.Backquote(counted(args, 1, 1)[0])
	must(e)
	return f
}

func (m *maker) lambda(args []api.Form) api.Form {
	return trees.Call("FUNCTION", trees.Call("LAMBDA", counted(args, 1, -1)...))
}

func (m *maker) when(args []api.Form) api.Form {
	counted(args, 1, -1)
	return trees.Call("IF", args[0], trees.Call("PROGN", args[1:]...))
}

func (m *maker) unless(args []api.Form) api.Form {
	counted(args, 1, -1)
	return trees.Call("IF", args[0], forms.Nil(), trees.Call("PROGN", args[1:]...))
}

func (m *maker) and(args []api.Form) api.Form {
	switch len(args) {
	case 0:
		return truth()
	case 1:
		return args[0]
	}
	return trees.Call("IF", args[0], trees.Call("AND", args[1:]...))
}

func (m *maker) or(args []api.Form) api.Form {
	switch len(args) {
	case 0:
		return forms.Nil()
	case 1:
		return args[0]
	}
	a := m.symbol()
	return let(a, args[0], trees.Call("IF", a, a, trees.Call("OR", args[1:]...)))
}

func (m *maker) cond(args []api.Form) api.Form {
	for _, clause := range args {
		counted(proper(clause), 1, -1)
	}
	if len(args) == 0 {
		return forms.Nil()
	}
	clause, others := proper(args[0]), trees.Call("COND", args[1:]...)
	if len(clause) == 1 {
		return trees.Call("OR", clause[0], others)
	}
	return trees.Call("IF", clause[0], trees.Call("PROGN", clause[1:]...), others)
}

func (m *maker) byKeys(args []api.Form) api.Form {
	return m.choice(args, func(v, keys api.Form) api.Form {
		l, ok := trees.Items(keys)
		if !ok {
			return trees.Call("EQL", v, quoted(keys))
		}
		var tests []api.Form
		for _, key := range l {
			tests = append(tests, trees.Call("EQL", v, quoted(key)))
		}
		return trees.Call("OR", tests...)
	})
}

func (m *maker) byTypes(args []api.Form) api.Form {
	return m.choice(args, func(v, name api.Form) api.Form { return trees.Call("TYPEP", v, quoted(name)) })
}

// choice returns the form that evaluates the first clause whose test is true of the value of another form.
func (m *maker) choice(args []api.Form, test func(v, x api.Form) api.Form) api.Form {
	counted(args, 1, -1)
	a := m.symbol()
	var clauses []api.Form
	for i, f := range args[1:] {
		clause := counted(proper(f), 1, -1)
		ahead, body := test(a, clause[0]), clause[1:]
		last := i == len(args)-2
		if last && (forms.Is(clause[0], trees.Lisp, "T") || forms.Is(clause[0], trees.Lisp, "OTHERWISE")) {
			ahead = truth()
		}
		if len(body) == 0 {
			body = []api.Form{forms.Nil()}
		}
		clauses = append(clauses, listed(ahead, body))
	}
	return let(a, args[0], trees.Call("COND", clauses...))
}

func (m *maker) prog1(args []api.Form) api.Form {
	counted(args, 1, -1)
	a := m.symbol()
	body := append([]api.Form(nil), args[1:]...)
	return let(a, args[0], append(body, a)...)
}

func (m *maker) prog2(args []api.Form) api.Form {
	counted(args, 2, -1)
	return trees.Call("PROGN", args[0], trees.Call("PROG1", args[1:]...))
}

func (m *maker) leave(args []api.Form) api.Form {
	value := forms.Nil()
	for _, v := range counted(args, 0, 1) {
		value = v
	}
	return trees.Call("RETURN-FROM", forms.Nil(), value)
}

// destructuringBind expands (DESTRUCTURING-BIND list e decl .. form ..).
func (m *maker) destructuringBind(args []api.Form) api.Form {
	counted(args, 2, -1)
	l, e := lambda.Parse(args[0], true)
	must(e)
	a := m.symbol()
	bound, next, e := lambda.Bind(l, a, args[2:], m.fresh)
	must(e)
	m.fresh = next
	return let(a, args[1], bound)
}
