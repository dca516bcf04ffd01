package macro

import (
	"slices"

	"commonform/api"
	"commonform/forms"
	"commonform/lambda"
	"commonform/trees"
)

// counts returns how many elements stand behind the name of a special form, or of one that makes an environment of macros, at least and at most (-1: any number); false for all other names.
func counts(name string) (least, most int, is bool) {
	switch name {
	case "QUOTE", "FUNCTION", "GO":
		return 1, 1, true
	case "THROW", "THE":
		return 2, 2, true
	case "IF":
		return 2, 3, true
	case "RETURN-FROM", "LOAD-TIME-VALUE":
		return 1, 2, true
	case "PROGV":
		return 2, -1, true
	case "PROGN", "SETQ", "TAGBODY", "LOCALLY":
		return 0, -1, true
	case "LET", "LET*", "FLET", "LABELS", "BLOCK", "CATCH", "UNWIND-PROTECT", "MULTIPLE-VALUE-CALL", "MULTIPLE-VALUE-PROG1",
		"MACROLET", "SYMBOL-MACROLET", "EVAL-WHEN":
		return 1, -1, true
	}
	return 0, 0, false
}

// isSpecial reports whether a symbol can mean no macro.
func isSpecial(name api.Form) bool {
	_, _, is := counts(name.Text)
	return is && name.Home == trees.Lisp
}

// list returns the expansion of a list that calls no macro.
func (x *walker) list(f api.Form, s *scope, depth int) api.Form {
	l := proper(f)
	name, args := l[0], l[1:]
	if isSpecial(name) {
		least, most, _ := counts(name.Text)
		return x.special(f, counted(args, least, most), s, depth)
	}
	if name.Kind == api.FormCons {
		name = x.lambda(name, s, depth+1)
	} else {
		need(isFunction(name))
	}
	return listed(name, x.forms(args, s, depth+1))
}

// isFunction reports whether a form may be the name of a function.
func isFunction(f api.Form) bool {
	return f.Kind == api.FormSymbol && f.Home != trees.Keyword && !forms.IsNil(f) && !forms.Is(f, trees.Lisp, "T")
}

// listed returns the list of a first element and others.
func listed(first api.Form, others []api.Form) api.Form {
	return trees.List(append([]api.Form{first}, others...)...)
}

// forms returns the expansions of forms at a depth.
func (x *walker) forms(l []api.Form, s *scope, depth int) []api.Form {
	var all []api.Form
	for _, f := range l {
		expanded := x.form(f, s, depth)
		all = append(all, expanded)
	}
	return all
}

// special returns the expansion of a special form, whose elements behind the name are as many as there may be.
func (x *walker) special(f api.Form, args []api.Form, s *scope, depth int) api.Form {
	name := f.Kids[0]
	from, to := 0, len(args) // which of them are evaluated
	switch name.Text {
	case "MACROLET":
		return x.macrolet(f, args, s, depth)
	case "SYMBOL-MACROLET":
		return x.symbolMacrolet(f, args, s, depth)
	case "EVAL-WHEN":
		return x.evalWhen(f, args, s, depth)
	case "SETQ":
		return x.setq(f, args, s, depth)
	case "LET", "LET*":
		return listed(name, x.let(name.Text == "LET*", args, s, depth))
	case "FLET", "LABELS":
		return listed(name, x.locals(name.Text == "LABELS", args, s, depth))
	case "LOCALLY":
		return listed(name, x.body(args, s, depth+1))
	case "TAGBODY":
		return listed(name, x.segments(args, s, depth+1))
	case "FUNCTION":
		return listed(name, []api.Form{x.named(args[0], s, depth+1)})
	case "GO":
		need(isTag(args[0]))
		fallthrough
	case "QUOTE":
		return f
	case "BLOCK", "RETURN-FROM":
		need(args[0].Kind == api.FormSymbol)
		fallthrough
	case "THE":
		from = 1
	case "LOAD-TIME-VALUE":
		to = 1
	}
	return listed(name, slices.Concat(args[:from], x.forms(args[from:to], s, depth+1), args[to:]))
}

// named returns the expansion of what stands behind FUNCTION.
func (x *walker) named(f api.Form, s *scope, depth int) api.Form {
	if f.Kind == api.FormCons {
		return x.lambda(f, s, depth)
	}
	need(isFunction(f))
	return f
}

// lambda returns the expansion of (LAMBDA list decl .. form ..).
func (x *walker) lambda(f api.Form, s *scope, depth int) api.Form {
	l := proper(f)
	need(forms.Is(l[0], trees.Lisp, "LAMBDA"))
	return listed(l[0], x.parts(l[1:], s, depth+1))
}

// parts returns the expansions of the parts of a function: list decl .. form .., which stand at a depth.
func (x *walker) parts(l []api.Form, s *scope, depth int) []api.Form {
	counted(l, 1, -1)
	list, inner := x.parameters(l[0], s, depth)
	return append([]api.Form{list}, x.body(l[1:], inner, depth)...)
}

// parameters returns a lambda list whose inits are expanded, and the scope of its variables.
func (x *walker) parameters(list api.Form, s *scope, depth int) (api.Form, *scope) {
	_, e := lambda.Parse(list, false)
	need(e == api.OK || e == api.ErrTwice) // a variable that occurs twice is seen when the function is converted
	l := slices.Clone(proper(list))
	for i, f := range l {
		if trees.Marker(f) {
			continue
		}
		parts, _ := trees.Items(f)
		if len(parts) == 0 {
			s = s.binds(aVariable, f)
			continue
		}
		if len(parts) > 1 {
			init := x.form(parts[1], s, depth+2)
			parts = slices.Replace(slices.Clone(parts), 1, 2, init)
		}
		s = s.binds(aVariable, parameter(parts[0]))
		for _, given := range parts[min(2, len(parts)):] {
			s = s.binds(aVariable, given)
		}
		l[i] = trees.List(parts...)
	}
	return trees.List(l...), s
}

// parameter returns the variable of a parameter, which may stand behind a key.
func parameter(f api.Form) api.Form {
	if parts, _ := trees.Items(f); len(parts) == 2 {
		return parts[1]
	}
	return f
}

// declares reports whether a form is a declaration.
func declares(f api.Form) bool { return forms.Is(operator(f), trees.Lisp, "DECLARE") }

// divided returns the declarations ahead of a body, and its forms.
func divided(l []api.Form) (declarations, body []api.Form) {
	n := slices.IndexFunc(l, func(f api.Form) bool { return !declares(f) })
	if n < 0 {
		n = len(l)
	}
	return slices.Clone(l[:n]), l[n:]
}

// body returns the expansions of a body, whose forms stand at a depth.
func (x *walker) body(l []api.Form, s *scope, depth int) []api.Form {
	declarations, body := divided(l)
	expanded := x.forms(body, s, depth)
	need(!slices.ContainsFunc(expanded, declares))
	return append(declarations, expanded...)
}

// let returns the expansions of what stands behind LET, or LET*.
func (x *walker) let(oneByOne bool, args []api.Form, s *scope, depth int) []api.Form {
	bindings := slices.Clone(proper(args[0]))
	for _, f := range bindings {
		need(isBinding(f))
	}
	inner := s
	for i, f := range bindings {
		v, around := f, s
		if oneByOne {
			around = inner
		}
		if l, _ := trees.Items(f); len(l) > 0 {
			v = l[0]
			bindings[i] = listed(v, x.forms(l[1:], around, depth+3))
		}
		inner = inner.binds(aVariable, v)
	}
	return append([]api.Form{trees.List(bindings...)}, x.body(args[1:], inner, depth+1)...)
}

// isBinding reports whether a form is a variable, or a list of one with at most one init.
func isBinding(f api.Form) bool {
	l, _ := trees.Items(f)
	return trees.Variable(f) || (len(l) == 1 || len(l) == 2) && trees.Variable(l[0])
}

// locals returns the expansions of what stands behind FLET, or LABELS.
func (x *walker) locals(labels bool, args []api.Form, s *scope, depth int) []api.Form {
	definitions := slices.Clone(proper(args[0]))
	inner := s
	for _, f := range definitions {
		name := counted(proper(f), 2, -1)[0]
		need(isFunction(name))
		inner = inner.binds(aFunction, name)
	}
	around := s
	if labels {
		around = inner
	}
	for i, f := range definitions {
		l := proper(f)
		definitions[i] = listed(l[0], x.parts(l[1:], around, depth+3))
	}
	return append([]api.Form{trees.List(definitions...)}, x.body(args[1:], inner, depth+1)...)
}

// setq returns the expansion of a SETQ: a pair with a symbol macro becomes a SETF.
func (x *walker) setq(f api.Form, args []api.Form, s *scope, depth int) api.Form {
	need(len(args)%2 == 0)
	var pairs []api.Form
	macros := false
	for pair := range slices.Chunk(args, 2) {
		set := trees.Call("SETQ", pair...)
		if m := s.find(aVariable, variable(pair[0])); m != nil && m.expansion != nil {
			x.count()
			macros = true
			set = trees.Call("SETF", *m.expansion, pair[1])
		}
		pairs = append(pairs, set)
	}
	if !macros {
		return listed(f.Kids[0], x.values(args, s, depth+1))
	}
	sets := trees.Call("PROGN", pairs...)
	if len(pairs) == 1 {
		sets = pairs[0]
	}
	x.grows(f, sets, depth)
	return x.form(sets, s, depth)
}

// values returns the pairs of a SETQ with the expansions of their values.
func (x *walker) values(args []api.Form, s *scope, depth int) []api.Form {
	args = slices.Clone(args)
	for i := 1; i < len(args); i += 2 {
		args[i] = x.form(args[i], s, depth)
	}
	return args
}

// isTag reports whether a form in a TAGBODY is a tag.
func isTag(f api.Form) bool { return f.Kind == api.FormSymbol || f.Kind == api.FormInt }

// segments returns the expansions of what stands in a TAGBODY. None of them becomes a tag.
func (x *walker) segments(l []api.Form, s *scope, depth int) []api.Form {
	var all []api.Form
	for _, f := range l {
		if !isTag(f) {
			f = x.form(f, s, depth)
			if isTag(f) {
				x.fits(3, depth+1)
				f = trees.Call("PROGN", f)
			}
		}
		all = append(all, f)
	}
	return all
}

// macrolet returns the expansion of (MACROLET ((name list form ..) ..) form ..).
func (x *walker) macrolet(f api.Form, args []api.Form, s *scope, depth int) api.Form {
	var macros []scope
	for _, definition := range proper(args[0]) {
		l := counted(proper(definition), 2, -1)
		need(l[0].Kind == api.FormSymbol)
		function := x.function(l[0], l[1], l[2:])
		macros = append(macros, scope{sort: aFunction, name: l[0], lambda: &function})
	}
	return x.inside(macros, f, args[1:], s, depth)
}

// symbolMacrolet returns the expansion of (SYMBOL-MACROLET ((s e) ..) decl .. form ..).
func (x *walker) symbolMacrolet(f api.Form, args []api.Form, s *scope, depth int) api.Form {
	var macros []scope
	for _, definition := range proper(args[0]) {
		l := counted(proper(definition), 2, 2)
		macros = append(macros, scope{sort: aVariable, name: variable(l[0]), expansion: &l[1]})
	}
	_, body := divided(args[1:]) // a LOCALLY would take the declarations as its own
	return x.inside(macros, f, body, s, depth)
}

// inside returns the expansion of the body of a form that makes macros. Of several ones with a name the first one counts.
func (x *walker) inside(macros []scope, f api.Form, body []api.Form, s *scope, depth int) api.Form {
	for _, m := range slices.Backward(macros) {
		s = s.with(m)
	}
	locally := trees.Call("LOCALLY", body...)
	x.grows(f, locally, depth)
	return x.form(locally, s, depth)
}

// evalWhen returns the expansion of (EVAL-WHEN (situation ..) form ..).
func (x *walker) evalWhen(f api.Form, args []api.Form, s *scope, depth int) api.Form {
	situations := proper(args[0])
	evaluated := forms.Nil()
	if slices.ContainsFunc(situations, isPresent) {
		evaluated = trees.Call("PROGN", args[1:]...)
	}
	x.grows(f, evaluated, depth)
	return x.form(evaluated, s, depth)
}

// isPresent reports whether forms are evaluated in a situation.
func isPresent(f api.Form) bool {
	return forms.Is(f, trees.Keyword, "EXECUTE") || forms.Is(f, trees.Keyword, "LOAD-TOPLEVEL") ||
		forms.Is(f, trees.Lisp, "EVAL") || forms.Is(f, trees.Lisp, "LOAD")
}
