package core

import (
	"commonform/api"
	"commonform/forms"
	"commonform/lambda"
	"commonform/trees"
)

// Convert returns the core tree of an expanded form.
func Convert(f api.Form, specials []api.Form) (tree api.Core, e api.Errno) {
	if e := forms.Check(f); e != api.OK {
		return api.Core{}, e
	}
	if trees.Labelled(f) {
		return api.Core{}, api.ErrForm
	}
	defer func() {
		switch code := recover().(type) {
		case nil:
		case api.Errno:
			tree, e = api.Core{}, code
		default:
			tree, e = api.Core{}, api.ErrForm
		}
	}()
	c := converter{special: map[[2]string]bool{}, makers: makers()}
	for _, s := range specials {
		if s.Kind == api.FormSymbol {
			c.special[nameOf(s)] = true
		}
	}
	tree = c.form(f, nil)
	if e := Check(tree); e != api.OK {
		return api.Core{}, e
	}
	return tree, api.OK
}

// nameOf returns the home and the name of a symbol.
func nameOf(s api.Form) [2]string { return [2]string{s.Home, s.Text} }

// need leaves the conversion with a code, unless all is right.
func need(ok bool, e api.Errno) {
	if !ok {
		panic(e)
	}
}

// converter makes the tree of a form.
type converter struct {
	special            map[[2]string]bool
	makers             map[string]func(*converter, []api.Form, *scope) api.Core
	vars, blocks, tags int // how many there are so far
}

// What a scope gives a meaning to.
const (
	aVariable = iota
	aFunction
	aBlock
	aTag
)

// scope is a name with a meaning, in front of those of an outer scope.
type scope struct {
	outer   *scope
	sort    int
	name    api.Form
	number  int
	special bool // whether a variable is no lexical one
}

// with returns a scope in which a name means a number.
func (s *scope) with(sort int, name api.Form, number int) *scope {
	return &scope{outer: s, sort: sort, name: name, number: number}
}

// specially returns a scope in which some variables are special.
func (s *scope) specially(names []api.Form) *scope {
	for _, name := range names {
		s = &scope{outer: s, sort: aVariable, name: name, special: true}
	}
	return s
}

// find returns the innermost scope that gives a name a meaning, nil if there is none.
func (s *scope) find(sort int, name api.Form) *scope {
	var walk func(s *scope) *scope
	walk = func(s *scope) *scope {
		if s == nil || s.sort == sort && forms.Equal(s.name, name) {
			return s
		}
		return walk(s.outer)
	}
	return walk(s)
}

// next counts one more of some numbers, and returns the one that is new.
func next(count *int) int {
	*count++
	return *count - 1
}

func (c *converter) variable() int { return next(&c.vars) }

// form returns the tree of a form.
func (c *converter) form(f api.Form, s *scope) api.Core {
	switch f.Kind {
	case api.FormSymbol:
		return c.symbol(f, s)
	case api.FormCons:
		return c.list(f, s)
	}
	return constant(f)
}

func constant(f api.Form) api.Core { return api.Core{Op: api.CoreConst, Data: trees.Copy(f)} }

// isConstant reports whether a symbol means itself.
func isConstant(f api.Form) bool {
	return forms.IsNil(f) || forms.Is(f, trees.Lisp, "T") || f.Home == trees.Keyword
}

func (c *converter) symbol(f api.Form, s *scope) api.Core {
	if isConstant(f) {
		return constant(f)
	}
	if v := s.find(aVariable, f); v != nil && !v.special {
		return api.Core{Op: api.CoreVar, N: v.number}
	}
	need(f.Home != "", api.ErrForm)
	return api.Core{Op: api.CoreSpecial, Data: f}
}

// list returns the tree of a special form, or a call.
func (c *converter) list(f api.Form, s *scope) api.Core {
	parts, ok := trees.Items(f)
	need(ok, api.ErrForm)
	name, args := parts[0], parts[1:]
	if maker := c.makers[name.Text]; maker != nil && forms.Is(name, trees.Lisp, name.Text) {
		return maker(c, args, s)
	}
	if name.Kind == api.FormCons {
		return api.Core{Op: api.CoreCall, Kids: append([]api.Core{c.written(name, s)}, c.forms(args, s)...)}
	}
	if local := c.local(name, s); local != nil {
		return api.Core{Op: api.CoreCall, Kids: append([]api.Core{{Op: api.CoreVar, N: local.number}}, c.forms(args, s)...)}
	}
	return api.Core{Op: api.CoreCallGlobal, Data: name, Kids: c.forms(args, s)}
}

// local returns the local function of a name, or nil if this can only mean a global one.
func (c *converter) local(name api.Form, s *scope) *scope {
	need(name.Kind == api.FormSymbol && !isConstant(name), api.ErrForm)
	found := s.find(aFunction, name)
	need(found != nil || name.Home != "", api.ErrForm)
	return found
}

// forms returns the trees of some forms.
func (c *converter) forms(l []api.Form, s *scope) []api.Core {
	var kids []api.Core
	for _, f := range l {
		kid := c.form(f, s)
		kids = append(kids, kid)
	}
	return kids
}

// progn returns the tree of forms that are evaluated one behind the other.
func (c *converter) progn(l []api.Form, s *scope) api.Core {
	if len(l) == 1 {
		return c.form(l[0], s)
	}
	return api.Core{Op: api.CoreProgn, Kids: c.forms(l, s)}
}

// body is a body: which variables are declared special there, and its forms.
type body struct{ specials, forms []api.Form }

// bodyOf divides declarations and forms.
func bodyOf(l []api.Form) body {
	var b body
	for len(l) > 0 && l[0].Kind == api.FormCons && forms.Is(l[0].Kids[0], trees.Lisp, "DECLARE") {
		specs, ok := trees.Items(l[0])
		need(ok, ErrDeclare)
		for _, spec := range specs[1:] {
			parts, ok := trees.Items(spec)
			need(ok && len(parts) > 0 && parts[0].Kind == api.FormSymbol, ErrDeclare)
			if forms.Is(parts[0], trees.Lisp, "SPECIAL") {
				b.specials = append(b.specials, parts[1:]...)
			}
		}
		l = l[1:]
	}
	b.forms = l
	return b
}

// binds reports whether a variable is special where a form with this body binds it.
func (c *converter) binds(v api.Form, b body) bool {
	special := c.special[nameOf(v)]
	for _, name := range b.specials {
		special = special || forms.Equal(name, v)
	}
	need(!special || v.Home != "", api.ErrForm)
	return special
}

// within returns the tree of a body whose declarations are taken.
func (c *converter) within(b body, s *scope) api.Core {
	return c.progn(b.forms, s.specially(b.specials))
}

// binding is a variable with its init.
type binding struct {
	name, init api.Form
	special    bool
}

// bindingsOf returns the bindings of LET, or of LET*, in which a variable may occur twice.
func bindingsOf(f api.Form, again bool) []binding {
	l, ok := trees.Items(f)
	need(ok, api.ErrForm)
	met := map[[2]string]bool{}
	var all []binding
	for _, x := range l {
		b := binding{name: x, init: forms.Nil()}
		if parts, ok := trees.Items(x); ok && len(parts) >= 1 && len(parts) <= 2 {
			b.name = parts[0]
			if len(parts) == 2 {
				b.init = parts[1]
			}
		}
		need(trees.Variable(b.name), api.ErrForm)
		need(again || !met[nameOf(b.name)], api.ErrTwice)
		met[nameOf(b.name)] = true
		all = append(all, b)
	}
	return all
}

// let returns the tree of a LET: (LET (binding ..) decl .. form ..).
func (c *converter) let(args []api.Form, s *scope) api.Core {
	need(len(args) > 0, api.ErrForm)
	bindings := bindingsOf(args[0], false)
	b := bodyOf(args[1:])
	var specials, inits []api.Form
	for _, x := range bindings {
		if c.binds(x.name, b) {
			specials = append(specials, x.name)
		}
		inits = append(inits, x.init)
	}
	kids := c.forms(inits, s)
	if len(kids) == 0 {
		return c.within(b, s)
	}
	if len(specials) == len(kids) {
		return api.Core{Op: api.CoreBind, Syms: specials, Kids: append(kids, c.within(b, s.specially(specials)))}
	}
	tree := api.Core{Op: api.CoreLet}
	inside := s.specially(specials)
	var values []api.Core
	for _, x := range bindings {
		n := c.variable()
		tree.Vars = append(tree.Vars, n)
		if c.binds(x.name, b) {
			values = append(values, api.Core{Op: api.CoreVar, N: n})
		} else {
			inside = inside.with(aVariable, x.name, n)
		}
	}
	tree.Kids = append(kids, bindSpecials(specials, values, c.within(b, inside)))
	return tree
}

// bindSpecials returns the tree that binds special variables around another one, if there are any.
func bindSpecials(specials []api.Form, values []api.Core, around api.Core) api.Core {
	if len(specials) == 0 {
		return around
	}
	return api.Core{Op: api.CoreBind, Syms: specials, Kids: append(values, around)}
}

// letStar returns the tree of bindings one inside of the other, around what a function makes.
func (c *converter) letStar(bindings []binding, s *scope, inner func(*scope) api.Core) api.Core {
	if len(bindings) == 0 {
		return inner(s)
	}
	b := bindings[0]
	init := c.form(b.init, s)
	if b.special {
		names := []api.Form{b.name}
		return api.Core{Op: api.CoreBind, Syms: names, Kids: []api.Core{init, c.letStar(bindings[1:], s.specially(names), inner)}}
	}
	n := c.variable()
	return api.Core{Op: api.CoreLet, Vars: []int{n}, Kids: []api.Core{init, c.letStar(bindings[1:], s.with(aVariable, b.name, n), inner)}}
}

// function is a function: its name, if it has one, its lambda list, and its body.
type function struct {
	block *api.Form
	list  lambda.List
	body  body
}

// functionOf reads a function behind its name: (list decl .. form ..).
func (c *converter) functionOf(parts []api.Form) function {
	need(len(parts) > 0, api.ErrForm)
	list, e := lambda.Parse(parts[0], false)
	need(e == api.OK, e)
	f := function{list: list, body: bodyOf(parts[1:])}
	for _, v := range lambda.Variables(list) {
		c.binds(v, f.body)
	}
	return f
}

// written returns the tree of (LAMBDA list decl .. form ..).
func (c *converter) written(f api.Form, s *scope) api.Core {
	parts, ok := trees.Items(f)
	need(ok && forms.Is(parts[0], trees.Lisp, "LAMBDA"), api.ErrForm)
	return c.lambda(c.functionOf(parts[1:]), s)
}

// parameters are those of a lambda, with what they bind.
type parameters struct {
	inits    []api.Core
	specials []api.Form
	values   []api.Core // of the special ones
	aux      []binding
	scope    *scope // in which the inits stand
}

// lambda returns the tree of a function.
func (c *converter) lambda(f function, s *scope) api.Core {
	tree := api.Core{Op: api.CoreLambda, Pars: c.numbered(f.list.Items)}
	if f.list.Allow {
		tree.N = 1
	}
	p := parameters{scope: s}
	for i, item := range f.list.Items {
		if item.Kind == lambda.Aux {
			p.aux = append(p.aux, binding{name: item.Var, init: item.Init, special: c.binds(item.Var, f.body)})
		} else {
			c.parameter(&p, item, tree.Pars[i], f.body)
		}
	}
	inner := func(s *scope) api.Core {
		if f.block == nil {
			return c.within(f.body, s)
		}
		n := next(&c.blocks)
		return api.Core{Op: api.CoreBlock, N: n, Kids: []api.Core{c.within(f.body, s.with(aBlock, *f.block, n))}}
	}
	around := c.letStar(p.aux, p.scope.specially(p.specials), inner)
	tree.Kids = append(p.inits, bindSpecials(p.specials, p.values, around))
	return tree
}

// numbered returns the parameters of a lambda; all of them are numbered ahead of what stands in inits.
func (c *converter) numbered(items []lambda.Item) []api.Param {
	var pars []api.Param
	for _, item := range items {
		if item.Kind == lambda.Aux { // behind all others
			break
		}
		x := api.Param{Kind: item.Kind, Var: c.variable(), Given: none, Key: item.Key}
		if item.Given.Kind != 0 {
			x.Given = c.variable()
		}
		pars = append(pars, x)
	}
	return pars
}

// parameter takes a parameter: its init stands in the scope of those ahead of it.
func (c *converter) parameter(p *parameters, item lambda.Item, x api.Param, b body) {
	if mayMiss(item.Kind) {
		init := c.form(item.Init, p.scope)
		p.inits = append(p.inits, init)
	}
	c.bound(p, item.Var, x.Var, b)
	if x.Given != none {
		c.bound(p, item.Given, x.Given, b)
	}
}

// bound binds a variable of a parameter to its number.
func (c *converter) bound(p *parameters, v api.Form, n int, b body) {
	p.scope = p.scope.with(aVariable, v, n)
	if c.binds(v, b) {
		p.specials = append(p.specials, v)
		p.values = append(p.values, api.Core{Op: api.CoreVar, N: n})
	}
}
