package macro

import (
	"slices"

	"commonform/api"
	"commonform/core"
	"commonform/forms"
	"commonform/lambda"
	"commonform/lib"
	"commonform/meaning"
	"commonform/trees"
)

const (
	maxCalls = 1000    // that are expanded
	maxSteps = 10000   // of the function of a macro
	enough   = 1 << 20 // nodes that are counted, of forms that are too large in any case
)

// walker expands the calls of macros in a form.
type walker struct {
	maker
	w        *lib.World
	table    Table
	standard map[string]func(*maker, []api.Form) api.Form
	calls    int // how many were expanded
	nodes    int // how many the whole form has
}

func newWalker(t Table, fresh int) *walker {
	return &walker{maker: maker{fresh: fresh}, table: t, standard: standard()}
}

// begin returns a walker that can call functions.
func begin(w *lib.World, t Table, fresh int) *walker {
	if w.Heap() == nil {
		panic(api.ErrArg)
	}
	x := newWalker(t, fresh)
	x.w = w
	return x
}

// Sorts of names.
const (
	aVariable = iota
	aFunction
)

// scope is a name with a meaning, in front of those of an outer scope: a variable or a function, or a macro, if it has what makes it one.
type scope struct {
	outer     *scope
	sort      int
	name      api.Form
	expansion *api.Form
	lambda    *api.Core
}

// with returns a scope in which a name has a meaning.
func (s *scope) with(inner scope) *scope {
	inner.outer = s
	return &inner
}

// binds returns a scope in which a name is that of a variable, or of a function.
func (s *scope) binds(sort int, name api.Form) *scope { return s.with(scope{sort: sort, name: name}) }

// find returns the innermost scope that gives a name a meaning, nil if there is none.
func (s *scope) find(sort int, name api.Form) *scope {
	for s != nil && !(s.sort == sort && forms.Equal(s.name, name)) {
		s = s.outer
	}
	return s
}

// operator returns the symbol with which a list begins, and nothing for all other forms.
func operator(f api.Form) api.Form {
	l, _ := trees.Spread(f)
	if len(l) == 0 || l[0].Kind != api.FormSymbol {
		return api.Form{}
	}
	return l[0]
}

// size returns the number of nodes of a form, and its depth; it ends early, if the depth is above MaxDepth.
func size(f api.Form) (nodes, depth int) {
	var walk func(f api.Form, level int) bool
	walk = func(f api.Form, level int) bool {
		nodes++
		depth = max(depth, level)
		if depth > api.MaxDepth || nodes > enough {
			return false
		}
		for _, kid := range f.Kids {
			if !walk(kid, level+1) {
				return false
			}
		}
		return true
	}
	walk(f, 1)
	return nodes, depth
}

// grows counts nodes, where a form at a depth is replaced.
func (x *walker) grows(old, f api.Form, depth int) {
	before, _ := size(old)
	nodes, levels := size(f)
	x.fits(nodes-before, depth-1+levels)
}

// fits counts nodes that are added, and leaves the expansion, if the form is too deep or too large then.
func (x *walker) fits(nodes, depth int) {
	if depth > api.MaxDepth {
		panic(api.ErrDepth)
	}
	x.nodes += nodes
	if x.nodes > api.MaxForm {
		panic(api.ErrSize)
	}
}

// examine leaves the expansion, if a form is not right.
func (x *walker) examine(f api.Form) {
	x.nodes = 0
	x.fits(size(f))
	need(forms.Check(f) == api.OK)
}

// whole returns the expansion of a form that stands in no other one.
func (x *walker) whole(f api.Form) api.Form {
	x.nodes = 0
	x.fits(size(f))
	f = x.form(f, nil, 1)
	need(forms.Check(f) == api.OK)
	return f
}

// form returns the expansion of a form at a depth.
func (x *walker) form(f api.Form, s *scope, depth int) api.Form {
	for {
		expansion, is := x.once(f, s, depth)
		if !is {
			break
		}
		x.grows(f, expansion, depth)
		f = expansion
	}
	if f.Kind == api.FormCons {
		return x.list(f, s, depth)
	}
	return f
}

// once expands a symbol macro, or the call of a macro, once.
func (x *walker) once(f api.Form, s *scope, depth int) (api.Form, bool) {
	switch f.Kind {
	case api.FormSymbol:
		if m := s.find(aVariable, f); m != nil && m.expansion != nil {
			x.count()
			return *m.expansion, true
		}
	case api.FormCons:
		return x.call(f, s, depth)
	case api.FormLabel, api.FormRef:
		panic(api.ErrForm) // no expanded form has labels
	}
	return f, false
}

// count counts a call of a macro.
func (x *walker) count() {
	x.calls++
	if x.calls > maxCalls {
		panic(api.ErrDepth)
	}
}

// call expands the call of a macro once.
func (x *walker) call(f api.Form, s *scope, depth int) (api.Form, bool) {
	name := operator(f)
	if isSpecial(name) {
		return f, false
	}
	if local := s.find(aFunction, name); local != nil {
		if local.lambda == nil {
			return f, false
		}
		return x.applied(*local.lambda, f), true
	}
	if user := x.user(name); user != nil {
		return x.applied(user.Lambda, f), true
	}
	expand := x.ahead(name)
	if expand == nil {
		return f, false
	}
	x.count()
	need(depth == 1 || !x.topOnly(name))
	return expand(f), true
}

// user returns the user's macro of a name, nil if there is none.
func (x *walker) user(name api.Form) *Macro {
	for i := range slices.Backward(x.table.Macros) {
		if m := &x.table.Macros[i]; name.Kind == api.FormSymbol && forms.Equal(m.Name, name) {
			return m
		}
	}
	return nil
}

// expander returns that of a name, nil if there is none.
func (x *walker) expander(name api.Form) *Named {
	for i := range x.table.Expanders {
		if n := &x.table.Expanders[i]; forms.Is(name, trees.Lisp, n.Name) {
			return n
		}
	}
	return nil
}

// topOnly reports whether a name is that of a standard macro that is called at the top alone.
func (x *walker) topOnly(name api.Form) bool {
	return (forms.Is(name, trees.Lisp, "DEFMACRO") || forms.Is(name, trees.Lisp, "DECLAIM")) && x.expander(name) == nil
}

// ahead returns what expands calls of an expander, or of a standard macro, by its name; nil, if there is none.
func (x *walker) ahead(name api.Form) func(f api.Form) api.Form {
	if n := x.expander(name); n != nil {
		return func(f api.Form) api.Form {
			expansion, next, e := n.Expand(f, x.fresh)
			must(e)
			x.fresh = next
			return expansion
		}
	}
	expand := x.standard[name.Text]
	switch {
	case forms.Is(name, "READER", "BACKQUOTE"):
		expand = (*maker).backquote
	case expand == nil, name.Home != trees.Lisp:
		return nil
	}
	return func(f api.Form) api.Form { return expand(&x.maker, proper(f)[1:]) }
}

// applied returns what the function of a macro makes of a call.
func (x *walker) applied(function api.Core, f api.Form) api.Form {
	x.count()
	args := proper(f)[1:]
	need(function.Op == api.CoreLambda)
	closure := succeeded(meaning.Run(x.w, function, maxSteps))
	list, e := x.w.Build(trees.List(args...))
	if e == api.ErrWords {
		panic(lib.End{Kind: lib.EndLimit, Code: e})
	}
	must(e)
	end := succeeded(meaning.Apply(x.w, closure.Values[0], append(closure.Values[:0:0], list), maxSteps))
	if len(end.Values) == 0 {
		return forms.Nil()
	}
	shown, e := x.w.Show(end.Values[0])
	must(e)
	plain, e := forms.Plain(shown)
	must(e)
	return plain
}

// succeeded returns the end of a run with values, and leaves the expansion with any other one.
func succeeded(end lib.End, _ int) lib.End {
	if end.Kind != lib.EndValues {
		panic(end)
	}
	return end
}

// function returns the function of the macro with a name, a lambda list, and what stands behind it.
func (x *walker) function(name, list api.Form, behind []api.Form) api.Core {
	l, e := lambda.Parse(list, true)
	must(e)
	call := x.symbol()
	declarations, body := divided(undocumented(behind))
	block := trees.Call("BLOCK", append([]api.Form{name}, body...)...)
	bound, next, e := lambda.Bind(l, call, append(declarations, block), x.fresh)
	must(e)
	x.fresh = next
	around := x.nodes
	bound = x.whole(bound)
	x.nodes = around
	tree, e := core.Convert(trees.Call("FUNCTION", trees.Call("LAMBDA", trees.List(call), bound)), x.table.Specials)
	must(e)
	return tree
}
