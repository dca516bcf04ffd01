package core

import (
	"commonform/api"
	"commonform/forms"
	"commonform/trees"
)

// Fields that an op may have.
const (
	fieldN = 1 << iota
	fieldVars
	fieldSyms
	fieldPars
	fieldData
)

// none is the Given of a parameter that nothing tells of.
const none = -1

// shape says what belongs to an op: the name of its text, its fields, and how many kids there are beside those for its Vars, Syms and inits, or at least.
type shape struct {
	name   string
	fields int
	kids   int
	more   bool
}

func (s shape) has(field int) bool { return s.fields&field != 0 }

// shapes stand at their ops.
var shapes = [...]shape{
	{},
	{"const", fieldData, 0, false},
	{"var", fieldN, 0, false},
	{"set", fieldN, 1, false},
	{"special", fieldData, 0, false},
	{"setspecial", fieldData, 1, false},
	{"function", fieldData, 0, false},
	{"lambda", fieldN | fieldPars, 1, false},
	{"call", 0, 1, true},
	{"callglobal", fieldData, 0, true},
	{"if", 0, 3, false},
	{"progn", 0, 0, true},
	{"let", fieldVars, 1, false},
	{"labels", fieldVars, 1, false},
	{"bind", fieldSyms, 1, false},
	{"progv", 0, 3, false},
	{"block", fieldN, 1, false},
	{"return", fieldN, 1, false},
	{"tagbody", fieldVars, 1, false},
	{"go", fieldN, 0, false},
	{"catch", 0, 2, false},
	{"throw", 0, 2, false},
	{"protect", 0, 2, false},
	{"valuescall", 0, 1, true},
	{"valuesfirst", 0, 1, true},
}

// Check returns OK for a right core tree.
func Check(c api.Core) api.Errno {
	if Size(c) == 0 {
		return api.ErrSize
	}
	for _, node := range walk(c) {
		if !rightNode(node) {
			return api.ErrForm
		}
	}
	k := checker{bound: map[[2]int]bool{}, inside: map[[2]int]bool{}}
	if !k.tree(c) {
		return api.ErrForm
	}
	return api.OK
}

// rightNode reports whether the fields of a node fit its op.
func rightNode(c api.Core) bool {
	if c.Op < 1 || c.Op >= len(shapes) {
		return false
	}
	s := shapes[c.Op]
	if !s.has(fieldN) && c.N != 0 || !s.has(fieldVars) && len(c.Vars) > 0 || !s.has(fieldSyms) && len(c.Syms) > 0 || !s.has(fieldPars) && len(c.Pars) > 0 {
		return false
	}
	if !s.has(fieldData) && !forms.Equal(c.Data, api.Form{}) || s.has(fieldData) && !rightData(c) {
		return false
	}
	least := s.kids + len(c.Vars) + len(c.Syms) + inits(c.Pars)
	if len(c.Kids) < least || !s.more && len(c.Kids) > least {
		return false
	}
	for _, v := range c.Vars {
		if !isNumber(v) {
			return false
		}
	}
	return isNumber(c.N) && rightSymbols(c.Syms) && rightParameters(c) && rightLambdas(c)
}

func isNumber(n int) bool { return n >= 0 && n <= maxNumber }

// inits returns how many parameters have an init.
func inits(pars []api.Param) int {
	n := 0
	for _, p := range pars {
		if mayMiss(p.Kind) {
			n++
		}
	}
	return n
}

// mayMiss reports whether parameters of a kind have an init.
func mayMiss(kind int) bool { return kind == api.ParamOptional || kind == api.ParamKey }

func rightData(c api.Core) bool {
	if c.Op == api.CoreConst {
		return forms.Check(c.Data) == api.OK
	}
	return isName(c.Data)
}

// isName reports whether a form is a symbol that may be a special variable, or name a global function.
func isName(f api.Form) bool {
	return f.Kind == api.FormSymbol && f.Home != "" && !forms.IsNil(f) && !forms.Is(f, trees.Lisp, "T") && forms.Check(f) == api.OK
}

// rightSymbols reports whether symbols may be bound together.
func rightSymbols(l []api.Form) bool {
	met := map[[2]string]bool{}
	for _, s := range l {
		name := [2]string{s.Home, s.Text}
		if !isName(s) || met[name] {
			return false
		}
		met[name] = true
	}
	return true
}

// rightParameters reports whether the parameters of a lambda are right, but for what they bind.
func rightParameters(c api.Core) bool {
	if c.Op != api.CoreLambda {
		return true
	}
	met := map[[2]string]bool{}
	last := api.ParamRequired
	for _, p := range c.Pars {
		key := [2]string{p.Key.Home, p.Key.Text}
		switch {
		case p.Kind < last, p.Kind > api.ParamKey, p.Kind == api.ParamRest && last == p.Kind:
			return false
		case !isNumber(p.Var), p.Given != none && (!mayMiss(p.Kind) || !isNumber(p.Given)):
			return false
		case p.Kind != api.ParamKey && !forms.Equal(p.Key, api.Form{}):
			return false
		case p.Kind == api.ParamKey && (p.Key.Kind != api.FormSymbol || forms.Check(p.Key) != api.OK || met[key]):
			return false
		case p.Kind == api.ParamKey:
			met[key] = true
		}
		last = p.Kind
	}
	return c.N <= 1
}

// rightLambdas reports whether the functions of a CoreLabels are lambdas.
func rightLambdas(c api.Core) bool {
	if c.Op != api.CoreLabels {
		return true
	}
	for _, kid := range c.Kids[:len(c.Vars)] {
		if kid.Op != api.CoreLambda {
			return false
		}
	}
	return true
}

// checker looks whether numbers are bound once, and used where they are bound: both by their sort.
type checker struct{ bound, inside map[[2]int]bool }

// bind begins the scope of a number, which it reports to be bound first.
func (k checker) bind(sort, n int) bool {
	id := [2]int{sort, n}
	if k.bound[id] {
		return false
	}
	k.bound[id], k.inside[id] = true, true
	return true
}

// within looks at some kids in the scope of numbers.
func (k checker) within(sort int, l []int, kids []api.Core) bool {
	for _, n := range l {
		if !k.bind(sort, n) {
			return false
		}
	}
	ok := k.kids(kids)
	for _, n := range l {
		delete(k.inside, [2]int{sort, n})
	}
	return ok
}

func (k checker) kids(l []api.Core) bool {
	for _, kid := range l {
		if !k.tree(kid) {
			return false
		}
	}
	return true
}

// tree looks at a tree whose nodes are right.
func (k checker) tree(c api.Core) bool {
	switch c.Op {
	case api.CoreVar, api.CoreSet:
		return k.inside[[2]int{ofVariables, c.N}] && k.kids(c.Kids)
	case api.CoreReturn:
		return k.inside[[2]int{ofBlocks, c.N}] && k.kids(c.Kids)
	case api.CoreGo:
		return k.inside[[2]int{ofTags, c.N}]
	case api.CoreLet:
		return k.kids(c.Kids[:len(c.Vars)]) && k.within(ofVariables, c.Vars, c.Kids[len(c.Vars):])
	case api.CoreLabels:
		return k.within(ofVariables, c.Vars, c.Kids)
	case api.CoreBlock:
		return k.within(ofBlocks, []int{c.N}, c.Kids)
	case api.CoreTagbody:
		return k.within(ofTags, c.Vars, c.Kids)
	case api.CoreLambda:
		return k.lambda(c)
	}
	return k.kids(c.Kids)
}

// lambda looks at a lambda: an init stands in the scope of the parameters ahead of its own one.
func (k checker) lambda(c api.Core) bool {
	ok := true
	left := c.Kids
	for _, p := range c.Pars {
		if mayMiss(p.Kind) {
			ok = ok && k.tree(left[0])
			left = left[1:]
		}
		ok = ok && k.bind(ofVariables, p.Var) && (p.Given == none || k.bind(ofVariables, p.Given))
	}
	ok = ok && k.kids(left)
	for _, v := range bound(c) {
		delete(k.inside, [2]int{ofVariables, v})
	}
	return ok
}
