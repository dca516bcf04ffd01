package meaning_test

import (
	"fmt"
	"math/rand"
	"slices"
	"testing"

	"commonform/api"
	"commonform/core"
	"commonform/forms"
	"commonform/lib"
	"commonform/meaning"
)

// planter makes random right trees, also ones that no form has.
type planter struct {
	r                   *rand.Rand
	vars, blocks, tags  int
	invars, inblks, ins []int
}

func (p *planter) number(count *int) int {
	*count++
	return *count - 1
}

func (p *planter) symbol() api.Form {
	l := []api.Form{forms.Symbol("COMMON-LISP-USER", "X"), forms.Symbol("COMMON-LISP-USER", "Y"), forms.Symbol("KEYWORD", "K"), forms.Symbol("COMMON-LISP", "CAR"), forms.Symbol("COMMON-LISP", "LIST"), forms.Symbol("COMMON-LISP", "FUNCALL"), forms.Symbol("COMMON-LISP", "SET"), forms.Symbol("COMMON-LISP", "%FSET")}
	return l[p.r.Intn(len(l))]
}

func (p *planter) kids(n, depth int) []api.Core {
	var l []api.Core
	for range n {
		l = append(l, p.tree(depth-1))
	}
	return l
}

// within makes trees in the scope of numbers.
func (p *planter) within(scope *[]int, l []int, n, depth int) []api.Core {
	before := slices.Clone(*scope)
	*scope = append(*scope, l...)
	kids := p.kids(n, depth)
	*scope = before
	return kids
}

func (p *planter) constant() api.Core {
	l := []api.Form{p.symbol(), forms.Nil(), {Kind: api.FormInt, Text: "1"}, {Kind: api.FormString, Text: "a"}, forms.List([]api.Form{p.symbol(), p.symbol()}), forms.Symbol("", "FRESH")}
	return api.Core{Op: api.CoreConst, Data: l[p.r.Intn(len(l))]}
}

func (p *planter) lambda(depth int) api.Core {
	c := api.Core{Op: api.CoreLambda, N: p.r.Intn(2)}
	before := slices.Clone(p.invars)
	kind := 1
	for range p.r.Intn(4) {
		if p.r.Intn(2) == 0 && kind < 4 {
			kind++
		}
		if kind == api.ParamRest && len(c.Pars) > 0 && c.Pars[len(c.Pars)-1].Kind == kind {
			kind++
		}
		x := api.Param{Kind: kind, Given: -1}
		if kind%2 == 0 {
			c.Kids = append(c.Kids, p.tree(depth-1))
		}
		x.Var = p.number(&p.vars)
		p.invars = append(p.invars, x.Var)
		if kind%2 == 0 && p.r.Intn(2) == 0 {
			x.Given = p.number(&p.vars)
			p.invars = append(p.invars, x.Given)
		}
		if kind == api.ParamKey {
			x.Key = forms.Symbol("KEYWORD", fmt.Sprint("K", len(c.Pars)))
		}
		c.Pars = append(c.Pars, x)
	}
	c.Kids = append(c.Kids, p.tree(depth-1))
	p.invars = before
	return c
}

func (p *planter) tree(depth int) api.Core {
	if depth <= 0 {
		return p.constant()
	}
	pick := func(l []int) int { return l[p.r.Intn(len(l))] }
	op := 1 + p.r.Intn(24)
	switch op {
	case api.CoreVar, api.CoreSet:
		if len(p.invars) > 0 {
			return api.Core{Op: op, N: pick(p.invars), Kids: p.kids(op-api.CoreVar, depth)}
		}
	case api.CoreSpecial, api.CoreFunction:
		return api.Core{Op: op, Data: p.symbol()}
	case api.CoreSetSpecial:
		return api.Core{Op: op, Data: p.symbol(), Kids: p.kids(1, depth)}
	case api.CoreLambda:
		return p.lambda(depth)
	case api.CoreCall, api.CoreValuesCall, api.CoreValuesFirst:
		return api.Core{Op: op, Kids: p.kids(1+p.r.Intn(3), depth)}
	case api.CoreCallGlobal:
		return api.Core{Op: op, Data: p.symbol(), Kids: p.kids(p.r.Intn(3), depth)}
	case api.CoreIf, api.CoreProgv:
		return api.Core{Op: op, Kids: p.kids(3, depth)}
	case api.CoreProgn:
		return api.Core{Op: op, Kids: p.kids(p.r.Intn(4), depth)}
	case api.CoreLet:
		kids := p.kids(2, depth)
		l := []int{p.number(&p.vars), p.number(&p.vars)}
		return api.Core{Op: op, Vars: l, Kids: append(kids, p.within(&p.invars, l, 1, depth)...)}
	case api.CoreLabels:
		l := []int{p.number(&p.vars), p.number(&p.vars)}
		before := slices.Clone(p.invars)
		p.invars = append(p.invars, l...)
		kids := []api.Core{p.lambda(depth - 1), p.lambda(depth - 1), p.tree(depth - 1)}
		p.invars = before
		return api.Core{Op: op, Vars: l, Kids: kids}
	case api.CoreBind:
		return api.Core{Op: op, Syms: []api.Form{forms.Symbol("COMMON-LISP-USER", "X"), p.otherSymbol()}, Kids: p.kids(3, depth)}
	case api.CoreBlock:
		n := p.number(&p.blocks)
		return api.Core{Op: op, N: n, Kids: p.within(&p.inblks, []int{n}, 1, depth)}
	case api.CoreReturn:
		if len(p.inblks) > 0 {
			return api.Core{Op: op, N: pick(p.inblks), Kids: p.kids(1, depth)}
		}
	case api.CoreTagbody:
		l := []int{p.number(&p.tags), p.number(&p.tags)}
		return api.Core{Op: op, Vars: l, Kids: p.within(&p.ins, l, 3, depth)}
	case api.CoreGo:
		if len(p.ins) > 0 {
			return api.Core{Op: op, N: pick(p.ins)}
		}
	case api.CoreCatch, api.CoreThrow, api.CoreProtect:
		return api.Core{Op: op, Kids: p.kids(2, depth)}
	}
	return p.constant()
}

// otherSymbol returns a symbol that may be bound beside X.
func (p *planter) otherSymbol() api.Form {
	return []api.Form{forms.Symbol("COMMON-LISP-USER", "Y"), forms.Symbol("KEYWORD", "K"), forms.Symbol("COMMON-LISP", "CAR")}[p.r.Intn(3)]
}

// P21.1, P21.4: any right tree ends in a specified way, whatever it does, and the world goes on.
func TestAnyTree(t *testing.T) {
	r := rand.New(rand.NewSource(211))
	kinds := map[int]int{}
	for range 800 {
		p := &planter{r: r}
		c := p.tree(6)
		if e := core.Check(c); e != api.OK {
			t.Fatalf("%v: %s", e, short(c))
		}
		w := newWorld(t)
		end, steps := meaning.Run(w, c, 3000)
		kinds[end.Kind]++
		if end.Kind == lib.EndBad || end.Kind == lib.EndLimit && end.Code != api.ErrSteps && end.Code != api.ErrWords && end.Code != api.ErrDepth {
			t.Errorf("%s: %s", short(c), ending(w, end))
		}
		if end.Kind == lib.EndLimit {
			continue
		}
		other, n := meaning.Run(newWorld(t), c, steps-1)
		equal(t, "with a step less", []any{other.Kind, other.Code, n}, []any{lib.EndLimit, api.ErrSteps, steps - 1})
		// the symbols that only bindings changed have no value again, and the next run is none of its parts
		equal(t, "the next run", ran(t, w, "(block a (funcall (function (lambda () (return-from a 1)))))"), "= 1")
	}
	if kinds[lib.EndValues] < 150 || kinds[lib.EndFault] < 80 {
		t.Errorf("the ends are %v", kinds)
	}
}
