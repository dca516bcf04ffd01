package macro_test

import (
	"fmt"
	"math/rand"
	"slices"
	"strconv"
	"strings"
	"testing"

	"commonform/api"
	"commonform/core"
	"commonform/forms"
	"commonform/lib"
	"commonform/macro"
	"commonform/meaning"
	"commonform/trees"
)

// writer writes random programs in which variables, local functions, macros and symbol macros have the same few names.
type writer struct {
	r      *rand.Rand
	banned []string // names of functions that are not called
}

func sym(name string) api.Form {
	f := forms.Symbol(user, name)
	if slices.Contains([]string{"WHEN", "OR", "AND", "PROG1"}, name) {
		f.Home = lisp
	}
	return f
}

func (w *writer) variable() api.Form { return sym([]string{"A", "B", "C"}[w.r.Intn(3)]) }

func (w *writer) name() string {
	for {
		name := []string{"F", "SWAP", "WHEN", "OR", "AND", "PROG1"}[w.r.Intn(6)]
		if !slices.Contains(w.banned, name) {
			return name
		}
	}
}

func (w *writer) number() api.Form {
	return api.Form{Kind: api.FormInt, Text: strconv.Itoa(w.r.Intn(9))}
}

func (w *writer) several(n, depth int) []api.Form {
	var l []api.Form
	for range n {
		l = append(l, w.form(depth))
	}
	return l
}

// form returns a form.
func (w *writer) form(depth int) api.Form {
	if depth == 0 {
		if w.r.Intn(3) == 0 {
			return w.number()
		}
		return w.variable()
	}
	depth--
	switch w.r.Intn(16) {
	case 0:
		return trees.Call("LIST", w.several(w.r.Intn(3), depth)...)
	case 1:
		return trees.Call("LET", trees.List(trees.List(sym("A"), w.form(depth)), trees.List(sym("B"), w.form(depth))), w.form(depth))
	case 2:
		return trees.Call("LET*", trees.List(trees.List(w.variable(), w.form(depth)), trees.List(w.variable(), w.form(depth))), w.form(depth), w.form(depth))
	case 3, 4:
		l := []api.Form{trees.List(trees.List(w.variable(), w.form(depth)))}
		for range w.r.Intn(3) {
			l = append(l, trees.Call("DECLARE", trees.Call("SPECIAL", w.variable()))) // no part of what it becomes
		}
		return trees.Call("SYMBOL-MACROLET", append(l, w.form(depth))...)
	case 5, 6:
		return w.locals("FLET", depth)
	case 7:
		return w.locals("LABELS", depth)
	case 8, 9:
		return w.macrolet(depth)
	case 10:
		return trees.Call("IF", w.several(3, depth)...)
	case 11:
		return trees.Call("COND", trees.List(w.several(2, depth)...), trees.List(w.form(depth)))
	case 12:
		list := trees.List(w.variable(), trees.Name("&OPTIONAL"), trees.List(sym("C"), w.form(depth)))
		if forms.Equal(list.Kids[0], sym("C")) {
			list = trees.List(sym("C"))
		}
		return trees.Call("FUNCALL", trees.Call("LAMBDA", list, w.form(depth)), w.form(depth))
	case 13:
		return trees.Call("EVAL-WHEN", trees.List(forms.Symbol("KEYWORD", "EXECUTE")), w.form(depth), w.form(depth))
	}
	return trees.List(append([]api.Form{sym(w.name())}, w.several(2, depth)...)...)
}

// locals returns a form that makes a local function, which calls nothing by its own name.
func (w *writer) locals(operator string, depth int) api.Form {
	name, banned := w.name(), w.banned
	list := trees.List(sym("A"), sym("B"))
	if w.r.Intn(2) == 0 {
		list = trees.List(sym("B"), sym("C"))
	}
	if operator == "LABELS" {
		w.banned = append(slices.Clone(banned), name)
	}
	body := w.form(depth)
	w.banned = banned
	return trees.Call(operator, trees.List(trees.List(sym(name), list, body)), w.form(depth))
}

// macrolet returns a form that makes a local macro.
func (w *writer) macrolet(depth int) api.Form {
	definition := trees.List(sym(w.name()), trees.List(sym("X"), sym("Y")), w.template(2))
	return trees.Call("MACROLET", trees.List(definition), w.form(depth))
}

// template returns a form that makes one of the forms X and Y.
func (w *writer) template(depth int) api.Form {
	quoted := func(f api.Form) api.Form { return trees.Call("QUOTE", f) }
	name := func(s string) api.Form { return quoted(trees.Name(s)) }
	part := func() api.Form {
		if depth > 0 && w.r.Intn(2) == 0 {
			return w.template(depth - 1)
		}
		return sym([]string{"X", "Y"}[w.r.Intn(2)])
	}
	switch w.r.Intn(6) {
	case 0:
		return part()
	case 1:
		return quoted(w.variable())
	case 2:
		return trees.Call("LIST", name("LET"), trees.Call("LIST", trees.Call("LIST", quoted(w.variable()), part())), part())
	case 3:
		return trees.Call("LIST", quoted(sym(w.name())), part(), part())
	}
	return trees.Call("LIST", name("LIST"), part(), part())
}

// binding is a name with a meaning: a variable, a symbol macro, a function or a macro.
type binding struct {
	outer    *binding
	name     api.Form
	function bool // whether it is a name of functions
	place    *any
	macro    *api.Form // the expansion, or what makes it of X and Y
	params   []api.Form
	body     api.Form
	scope    *binding // of a function
}

func (b *binding) find(name api.Form, function bool) *binding {
	for ; b != nil; b = b.outer {
		if b.function == function && forms.Equal(b.name, name) {
			return b
		}
	}
	return nil
}

func (b *binding) variable(name api.Form, x any) *binding {
	return &binding{outer: b, name: name, place: &x}
}

// evaluator evaluates forms whose macros it expands when it meets them.
type evaluator struct {
	fresh, left int
}

type stuck struct{}

// makes returns what a template makes of X and Y.
func makes(template api.Form, x, y api.Form) api.Form {
	switch {
	case forms.Equal(template, sym("X")):
		return x
	case forms.Equal(template, sym("Y")):
		return y
	case forms.Is(template.Kids[0], lisp, "QUOTE"):
		return template.Kids[1]
	}
	parts, _ := trees.Items(template)
	var l []api.Form
	for _, part := range parts[1:] {
		l = append(l, makes(part, x, y))
	}
	return trees.List(l...)
}

func isTrue(x any) bool {
	l, ok := x.([]any)
	return !ok || len(l) > 0
}

func (v *evaluator) all(l []api.Form, b *binding) []any {
	values := []any{}
	for _, f := range l {
		values = append(values, v.form(f, b))
	}
	return values
}

func (v *evaluator) last(l []api.Form, b *binding) any {
	values := v.all(l, b)
	if len(values) == 0 {
		return []any{}
	}
	return values[len(values)-1]
}

func (v *evaluator) form(f api.Form, b *binding) any {
	v.left--
	if v.left < 0 {
		panic(stuck{})
	}
	switch {
	case f.Kind == api.FormInt:
		n, _ := strconv.Atoi(f.Text)
		return n
	case forms.IsNil(f):
		return []any{}
	case forms.Is(f, lisp, "T"):
		return "t"
	case f.Kind == api.FormSymbol:
		found := b.find(f, false)
		if found.macro != nil {
			return v.form(*found.macro, b)
		}
		return *found.place
	}
	l, _ := trees.Items(f)
	if x, ok := v.special(l[0].Text, l[1:], b); ok {
		return x
	}
	return v.call(f, l[0], l[1:], b)
}

// special evaluates a special form, if it is one.
func (v *evaluator) special(name string, args []api.Form, b *binding) (any, bool) {
	inner := b
	switch name {
	case "LIST":
		return v.all(args, b), true
	case "IF":
		if isTrue(v.form(args[0], b)) {
			return v.form(args[1], b), true
		}
		return v.last(args[2:], b), true
	case "PROGN":
		return v.last(args, b), true
	case "EVAL-WHEN":
		return v.last(args[1:], b), true
	case "LET", "LET*":
		bindings, _ := trees.Items(args[0])
		for _, x := range bindings {
			around := b
			if name == "LET*" {
				around = inner
			}
			inner = inner.variable(x.Kids[0], v.form(x.Kids[1], around))
		}
	case "SYMBOL-MACROLET":
		definition := args[0].Kids[0]
		inner = &binding{outer: b, name: definition.Kids[0], macro: &definition.Kids[1]}
		return v.form(args[len(args)-1], inner), true // behind declarations
	case "MACROLET":
		definition := args[0].Kids[0]
		inner = &binding{outer: b, name: definition.Kids[0], function: true, macro: &definition.Kids[2]}
	case "FLET", "LABELS":
		definition := args[0].Kids[0]
		params, _ := trees.Items(definition.Kids[1])
		inner = &binding{outer: b, name: definition.Kids[0], function: true, params: params, body: definition.Kids[2], scope: b}
		if name == "LABELS" {
			inner.scope = inner
		}
	case "FUNCALL":
		return v.funcall(args, b), true
	default:
		return nil, false
	}
	return v.last(args[1:], inner), true
}

// funcall calls (LAMBDA (v [&OPTIONAL (c init)]) form) with one argument.
func (v *evaluator) funcall(args []api.Form, b *binding) any {
	x := v.form(args[1], b)
	list, _ := trees.Items(args[0].Kids[1])
	b = b.variable(list[0], x)
	if len(list) > 1 {
		b = b.variable(list[2].Kids[0], v.form(list[2].Kids[1], b))
	}
	return v.form(args[0].Kids[2], b)
}

// call evaluates the call of a macro or a function.
func (v *evaluator) call(f, name api.Form, args []api.Form, b *binding) any {
	local := b.find(name, true)
	switch {
	case local != nil && local.macro != nil:
		return v.form(makes(*local.macro, args[0], args[1]), b)
	case local != nil:
		values := v.all(args, b)
		inner := local.scope
		for i, p := range local.params {
			inner = inner.variable(p, values[i])
		}
		return v.form(local.body, inner)
	case name.Text == "F":
		return append([]any{"f"}, v.all(args, b)...)
	case name.Text == "SWAP":
		return v.form(trees.Call("LIST", args[1], args[0]), b)
	}
	expansion, next, is, e := macro.Once(macro.New(), f, v.fresh)
	if !is || e != api.OK {
		panic(fmt.Sprint(text(f), e))
	}
	v.fresh = next
	return v.form(expansion, b)
}

// printed returns the text of a value.
func printed(x any) string {
	l, ok := x.([]any)
	switch {
	case !ok:
		return fmt.Sprint(x)
	case len(l) == 0:
		return "nil"
	}
	var all []string
	for _, part := range l {
		all = append(all, printed(part))
	}
	return "(" + strings.Join(all, " ") + ")"
}

// evaluated returns the text of a program's value, and false if it takes too long.
func evaluated(f api.Form) (s string, ended bool) {
	defer func() {
		if left := recover(); left != nil {
			if _, ok := left.(stuck); !ok {
				panic(left)
			}
			s, ended = "", false
		}
	}()
	v := &evaluator{left: 20000}
	return printed(v.form(f, nil)), true
}

// P22.2, P22.4, P12: expanding ahead and on demand are one, in all environments; what is expanded is its own expansion, and can be converted.
func TestOnDemand(t *testing.T) {
	var s *session
	r := rand.New(rand.NewSource(22))
	compared := 0
	for range 2500 {
		if s == nil {
			s = newSession(t)
			s.run("(defmacro swap (x y) (list 'list y x)) (defun f (x y) (list 'f x y))")
		}
		w := &writer{r: r}
		f := trees.Call("LET", trees.List(trees.List(sym("A"), w.number()), trees.List(sym("B"), w.number()), trees.List(sym("C"), w.number())), w.form(4))
		f = trees.Copy(f)
		expanded, next, end := macro.All(s.w, s.table, f, 0)
		if end.Kind == lib.EndBad && (end.Code == api.ErrSize || end.Code == api.ErrDepth) {
			continue // a symbol macro that is a part of itself, or a macro that grows and grows
		}
		if end.Kind == lib.EndLimit && end.Code == api.ErrWords {
			s = nil // another world has room
			continue
		}
		if end.Kind != lib.EndValues {
			t.Fatalf("%s: %s", text(f), ending(s.w, end))
		}
		want, ended := evaluated(f)
		if !ended {
			continue
		}
		again, after, _ := macro.All(s.w, s.table, expanded, next)
		same(t, "an expansion again", again, expanded)
		if after != next {
			t.Errorf("%s again takes %d fresh variables", text(expanded), after-next)
		}
		tree, e := core.Convert(expanded, nil)
		if e != api.OK {
			t.Fatalf("%s: %v", text(expanded), e)
		}
		end, _ = meaning.Run(s.w, tree, api.MaxSteps)
		if end.Kind == lib.EndLimit && end.Code == api.ErrWords {
			s = nil
			continue
		}
		compared++
		if got := ending(s.w, end); got != "= "+want {
			t.Fatalf("%s is %s; want %s; it is expanded to\n%s", text(f), got, want, text(expanded))
		}
	}
	if compared < 1500 {
		t.Errorf("only %d programs were compared", compared)
	}
}

// P22.3: forms with other names for their variables have expansions with these names; fresh variables are all different, and nothing depends on their numbers.
func TestHygiene(t *testing.T) {
	s := newSession(t)
	r := rand.New(rand.NewSource(223))
	for range 1500 {
		w := &writer{r: r, banned: []string{"SWAP"}}
		inner := w.form(4)
		f := trees.Copy(trees.Call("MULTIPLE-VALUE-BIND", trees.List(sym("A"), sym("B")), trees.Call("DOTIMES", trees.List(sym("C"), w.number()), trees.Call("PSETQ", sym("A"), w.number())), inner))
		if strings.Contains(text(f), "macrolet") {
			continue // user macros may depend on names
		}
		got, next, end := macro.All(s.w, macro.New(), f, 7)
		other := renamed(f, other)
		want, after, otherEnd := macro.All(s.w, macro.New(), other, 7)
		if end.Kind != otherEnd.Kind || end.Code != otherEnd.Code || next != after || !forms.Equal(renamedBack(want), got) {
			t.Errorf("%s and %s differ", text(got), text(want))
		}
		far, last, _ := macro.All(s.w, macro.New(), f, 1007)
		shifted := renamed(got, func(s api.Form) api.Form {
			if n, err := strconv.Atoi(s.Text); s.Home == "%" && err == nil {
				s.Text = strconv.Itoa(n + 1000)
				if n < 7 || n >= next {
					t.Errorf("%s has the variable %d; %d is next", text(got), n, next)
				}
			}
			return s
		})
		if !forms.Equal(far, shifted) || end.Kind == lib.EndValues && last != next+1000 {
			t.Errorf("%s from 1007 on: %s, %d", text(got), text(far), last)
		}
	}
}

// other gives variables other names.
func other(s api.Form) api.Form {
	if s.Home == user && len(s.Text) == 1 && s.Text < "D" {
		return forms.Symbol("OTHER", "VARIABLE-"+s.Text)
	}
	return s
}

func renamedBack(f api.Form) api.Form {
	return renamed(f, func(s api.Form) api.Form {
		if name, ok := strings.CutPrefix(s.Text, "VARIABLE-"); ok && s.Home == "OTHER" {
			return forms.Symbol(user, name)
		}
		return s
	})
}
