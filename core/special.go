package core

import (
	"commonform/api"
	"commonform/forms"
	"commonform/trees"
)

// makers returns what makes the trees of special forms, by their names.
func makers() map[string]func(*converter, []api.Form, *scope) api.Core {
	return map[string]func(*converter, []api.Form, *scope) api.Core{
		"QUOTE":                (*converter).quote,
		"FUNCTION":             (*converter).named,
		"IF":                   (*converter).choice,
		"PROGN":                (*converter).progn,
		"LET":                  (*converter).let,
		"LET*":                 (*converter).letOneByOne,
		"SETQ":                 (*converter).setq,
		"BLOCK":                (*converter).block,
		"RETURN-FROM":          (*converter).returnFrom,
		"TAGBODY":              (*converter).tagbody,
		"GO":                   (*converter).leap,
		"CATCH":                (*converter).catch,
		"THROW":                (*converter).throw,
		"UNWIND-PROTECT":       (*converter).protect,
		"MULTIPLE-VALUE-CALL":  (*converter).valuesCall,
		"MULTIPLE-VALUE-PROG1": (*converter).valuesFirst,
		"PROGV":                (*converter).progv,
		"FLET":                 (*converter).flet,
		"LABELS":               (*converter).labels,
		"LOCALLY":              (*converter).locally,
		"THE":                  (*converter).the,
		"LOAD-TIME-VALUE":      (*converter).loadTimeValue,
	}
}

// count leaves the conversion, if there are fewer or more arguments; -1: any number.
func count(args []api.Form, least, most int) {
	need(len(args) >= least && (most < 0 || len(args) <= most), api.ErrForm)
}

func (c *converter) quote(args []api.Form, _ *scope) api.Core {
	count(args, 1, 1)
	return constant(args[0])
}

func (c *converter) named(args []api.Form, s *scope) api.Core {
	count(args, 1, 1)
	if args[0].Kind == api.FormCons {
		return c.written(args[0], s)
	}
	if local := c.local(args[0], s); local != nil {
		return api.Core{Op: api.CoreVar, N: local.number}
	}
	return api.Core{Op: api.CoreFunction, Data: args[0]}
}

func (c *converter) choice(args []api.Form, s *scope) api.Core {
	count(args, 2, 3)
	if len(args) == 2 {
		args = []api.Form{args[0], args[1], forms.Nil()}
	}
	return api.Core{Op: api.CoreIf, Kids: c.forms(args, s)}
}

func (c *converter) letOneByOne(args []api.Form, s *scope) api.Core {
	count(args, 1, -1)
	bindings := bindingsOf(args[0], true)
	b := bodyOf(args[1:])
	for i, x := range bindings {
		bindings[i].special = c.binds(x.name, b)
	}
	return c.letStar(bindings, s, func(s *scope) api.Core { return c.within(b, s) })
}

func (c *converter) setq(args []api.Form, s *scope) api.Core {
	need(len(args)%2 == 0, api.ErrForm)
	for i := 0; i < len(args); i += 2 {
		need(trees.Variable(args[i]), api.ErrForm)
	}
	var kids []api.Core
	for i := 0; i < len(args); i += 2 {
		set := c.symbol(args[i], s)
		if set.Op = api.CoreSetSpecial; set.Data.Kind == 0 {
			set.Op = api.CoreSet
		}
		set.Kids = c.forms(args[i+1:i+2], s)
		kids = append(kids, set)
	}
	switch len(kids) {
	case 0:
		return constant(forms.Nil())
	case 1:
		return kids[0]
	}
	return api.Core{Op: api.CoreProgn, Kids: kids}
}

func (c *converter) block(args []api.Form, s *scope) api.Core {
	need(len(args) > 0 && args[0].Kind == api.FormSymbol, api.ErrForm)
	n := next(&c.blocks)
	return api.Core{Op: api.CoreBlock, N: n, Kids: []api.Core{c.progn(args[1:], s.with(aBlock, args[0], n))}}
}

func (c *converter) returnFrom(args []api.Form, s *scope) api.Core {
	count(args, 1, 2)
	need(args[0].Kind == api.FormSymbol, api.ErrForm)
	block := s.find(aBlock, args[0])
	need(block != nil, ErrScope)
	value := forms.Nil()
	if len(args) == 2 {
		value = args[1]
	}
	return api.Core{Op: api.CoreReturn, N: block.number, Kids: []api.Core{c.form(value, s)}}
}

// isTag reports whether a form in a TAGBODY is a tag.
func isTag(f api.Form) bool { return f.Kind == api.FormSymbol || f.Kind == api.FormInt }

func (c *converter) tagbody(args []api.Form, s *scope) api.Core {
	type tag struct {
		kind       int
		home, text string
	}
	met := map[tag]bool{}
	segments := [][]api.Form{nil}
	var tags []api.Form
	for _, x := range args {
		if !isTag(x) {
			segments[len(segments)-1] = append(segments[len(segments)-1], x)
			continue
		}
		name := tag{x.Kind, x.Home, x.Text}
		need(!met[name], api.ErrTwice)
		met[name] = true
		tags = append(tags, x)
		segments = append(segments, nil)
	}
	tree := api.Core{Op: api.CoreTagbody}
	for _, tag := range tags {
		n := next(&c.tags)
		tree.Vars = append(tree.Vars, n)
		s = s.with(aTag, tag, n)
	}
	for _, segment := range segments {
		kid := c.progn(segment, s)
		tree.Kids = append(tree.Kids, kid)
	}
	return tree
}

func (c *converter) leap(args []api.Form, s *scope) api.Core {
	count(args, 1, 1)
	need(isTag(args[0]), api.ErrForm)
	tag := s.find(aTag, args[0])
	need(tag != nil, ErrScope)
	return api.Core{Op: api.CoreGo, N: tag.number}
}

// firsts returns a tree of so many forms and, behind them, one of all others.
func (c *converter) firsts(op, n int, args []api.Form, s *scope) api.Core {
	count(args, n, -1)
	kids := c.forms(args[:n], s)
	return api.Core{Op: op, Kids: append(kids, c.progn(args[n:], s))}
}

func (c *converter) catch(args []api.Form, s *scope) api.Core {
	return c.firsts(api.CoreCatch, 1, args, s)
}

func (c *converter) protect(args []api.Form, s *scope) api.Core {
	return c.firsts(api.CoreProtect, 1, args, s)
}

func (c *converter) progv(args []api.Form, s *scope) api.Core {
	return c.firsts(api.CoreProgv, 2, args, s)
}

func (c *converter) throw(args []api.Form, s *scope) api.Core {
	count(args, 2, 2)
	return api.Core{Op: api.CoreThrow, Kids: c.forms(args, s)}
}

func (c *converter) valuesCall(args []api.Form, s *scope) api.Core {
	count(args, 1, -1)
	return api.Core{Op: api.CoreValuesCall, Kids: c.forms(args, s)}
}

func (c *converter) valuesFirst(args []api.Form, s *scope) api.Core {
	count(args, 1, -1)
	return api.Core{Op: api.CoreValuesFirst, Kids: c.forms(args, s)}
}

// locals reads the functions of FLET and LABELS.
func (c *converter) locals(args []api.Form) ([]function, body) {
	count(args, 1, -1)
	definitions, ok := trees.Items(args[0])
	need(ok, api.ErrForm)
	var all []function
	for _, d := range definitions {
		parts, ok := trees.Items(d)
		need(ok && len(parts) > 1 && parts[0].Kind == api.FormSymbol && !isConstant(parts[0]), api.ErrForm)
		f := c.functionOf(parts[1:])
		f.block = &parts[0]
		all = append(all, f)
	}
	return all, bodyOf(args[1:])
}

func (c *converter) flet(args []api.Form, s *scope) api.Core {
	functions, b := c.locals(args)
	tree := api.Core{Op: api.CoreLet}
	for _, f := range functions {
		kid := c.lambda(f, s)
		tree.Kids = append(tree.Kids, kid)
	}
	tree.Vars, s = c.functions(functions, s)
	tree.Kids = append(tree.Kids, c.within(b, s))
	return tree
}

func (c *converter) labels(args []api.Form, s *scope) api.Core {
	functions, b := c.locals(args)
	tree := api.Core{Op: api.CoreLabels}
	tree.Vars, s = c.functions(functions, s)
	for _, f := range functions {
		kid := c.lambda(f, s)
		tree.Kids = append(tree.Kids, kid)
	}
	tree.Kids = append(tree.Kids, c.within(b, s))
	return tree
}

// functions numbers local functions, and returns the scope that has them.
func (c *converter) functions(l []function, s *scope) ([]int, *scope) {
	var numbers []int
	for _, f := range l {
		n := c.variable()
		numbers = append(numbers, n)
		s = s.with(aFunction, *f.block, n)
	}
	return numbers, s
}

func (c *converter) locally(args []api.Form, s *scope) api.Core { return c.within(bodyOf(args), s) }

func (c *converter) the(args []api.Form, s *scope) api.Core {
	count(args, 2, 2)
	return c.form(args[1], s)
}

func (c *converter) loadTimeValue(args []api.Form, s *scope) api.Core {
	count(args, 1, 2)
	return c.form(args[0], s)
}
