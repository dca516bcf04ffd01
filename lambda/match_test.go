package lambda_test

import (
	"fmt"
	"math/rand"
	"slices"
	"strings"
	"testing"

	"commonform/api"
	"commonform/core"
	"commonform/forms"
	"commonform/lambda"
	"commonform/lib"
	"commonform/meaning"
)

// P18.1, P18.4: what variables are bound to.
func TestMatch(t *testing.T) {
	for _, c := range []struct{ list, args, want string }{
		{"()", "", ""},
		{"(a b)", "1 2", "a=1 b=2"},
		{"(a &optional (b 1 c) &rest d)", "5", "a=5 b=nil* c=nil d=nil"},
		{"(a &optional (b 1 c) &rest d)", "5 6", "a=5 b=6 c=t d=nil"},
		{"(a &optional (b 1 c) &rest d)", "5 6 7 8", "a=5 b=6 c=t d=(7 8)"},
		{"(&key x)", ":x 3", "x=3"},
		{"(&key x)", ":x 3 :x 4", "x=3"},
		{"(&key (x 1 y) z)", ":z 3", "x=nil* y=nil z=3"},
		{"(&key ((k x)))", "k 3", "x=3"},
		{"(&key ((#:k x)))", "#:k 3", "x=3"},
		{"(&key x)", ":allow-other-keys t :y 3", "x=nil*"},
		{"(&key x)", ":y 3 :allow-other-keys 5 :allow-other-keys nil", "x=nil*"},
		{"(&key x)", ":allow-other-keys nil :x 3", "x=3"},
		{"(&key x &allow-other-keys)", "5 6 :x 3", "x=3"},
		{"(&key ((:allow-other-keys x)))", ":allow-other-keys t :y 3", "x=t"},
		{"(&rest r &key x)", ":x 3", "r=(:x 3) x=3"},
		{"(a &aux (b 1) c)", "1", "a=1 b=nil* c=nil*"},
		{"((a b) . c)", "(1 2) 3", "a=1 b=2 c=(3)"},
		{"(&whole w a &environment e)", "1", "w=(1) a=1 e=nil*"},
		{"(&whole w &rest r)", "", "w=nil r=nil"},
		{"(())", "nil", ""},
		{"((a . b))", "(1 . 2)", "a=1 b=2"},
		{"((a &rest b))", "(1 2 . 3)", "a=1 b=(2 . 3)"},
		{"((a &optional b &rest c))", "(1 . 2)", "a=1 b=nil* c=2"},
		{"((&rest c &key d))", "(:d 2 . 3)", "c=(:d 2 . 3) d=2"},
		{"(&optional ((a b &key c) nil d))", "(1 2)", "a=1 b=2 c=nil* d=t"},
		{"(&optional ((a &optional (b 1 c) . e) nil d) f)", "", "a=nil* b=nil* c=nil* e=nil* d=nil f=nil*"},
		{"(&key ((:k (a)) nil d))", ":k (1)", "a=1 d=t"},
	} {
		b, e := lambda.Match(parsed(t, c.list, true), items(t, c.args))
		equal(t, c.list+" and "+c.args, []any{bound(b), e}, []any{c.want, api.OK})
	}
}

// P18.1, P18.3: arguments that do not fit, and which error is named first.
func TestMatchErrors(t *testing.T) {
	for _, c := range []struct {
		list, args string
		want       api.Errno
	}{
		{"(a)", "", api.ErrSize}, {"(a)", "1 2", api.ErrSize}, {"(a &optional b)", "1 2 3", api.ErrSize}, {"(a &key b)", "", api.ErrSize},
		{"(&key x)", ":x", api.ErrForm}, {"(&key x)", ":y 1 :x", api.ErrForm}, {"(&key x &allow-other-keys)", "5", api.ErrForm}, {"(&rest r &key)", "5", api.ErrForm},
		{"(&key x)", ":y 3", api.ErrNone}, {"(&key x)", ":x 1 :y 3", api.ErrNone}, {"(&key x)", ":y 3 :x 1", api.ErrNone}, {"(&key x)", "x 3", api.ErrNone}, {"(&key x)", "5 3", api.ErrNone}, {"(&key)", ":x 3", api.ErrNone},
		{"(&key x)", ":allow-other-keys nil :y 3 :allow-other-keys t", api.ErrNone},
		{"((a))", "5", api.ErrForm}, {"((a))", "\"a\"", api.ErrForm}, {"((a))", "nil", api.ErrSize}, {"((a))", "(1 2)", api.ErrSize}, {"(())", "(1)", api.ErrSize},
		{"((a))", "(1 . 2)", api.ErrForm}, {"((a b))", "(1 . 2)", api.ErrSize}, {"((&optional a))", "(1 . 2)", api.ErrForm}, {"((&key a))", "(:a 1 . 2)", api.ErrForm},
		{"((&key a) (b))", "(:a) 5", api.ErrForm}, {"((&key a) (b))", "(:c 1) 5", api.ErrNone}, {"((b) (&key a))", "5 (:c 1)", api.ErrForm},
		{"((b) &key a)", "5 :c 1", api.ErrNone}, {"((b) &key a)", "5 :c", api.ErrForm}, {"(&optional ((b)) &key a)", "5 :c 1", api.ErrNone},
		{"(&optional ((b (c)) nil d))", "(1 2)", api.ErrForm}, {"(&key ((:k (a)) (b)))", ":k 5", api.ErrForm},
		{"((a))", "#1=(1)", api.ErrForm},
	} {
		b, e := lambda.Match(parsed(t, c.list, true), items(t, c.args))
		equal(t, c.list+" and "+c.args, []any{b, e}, []any{[]lambda.Binding(nil), c.want})
	}
}

// writer writes random lambda lists.
type writer struct {
	r     *rand.Rand
	macro bool
	n     int // how many variables there are
	keys  int // and keys of their own
}

func (p *writer) name() string {
	p.n++
	return fmt.Sprint("v", p.n)
}

func (p *writer) target(depth int) string {
	if p.macro && depth > 0 && p.r.Intn(3) == 0 {
		return p.list(false, depth-1)
	}
	return p.name()
}

// init writes an init form: a number, a list, or a variable that is bound ahead.
func (p *writer) init() string {
	if p.n > 0 && p.r.Intn(2) == 0 {
		return fmt.Sprint("v", 1+p.r.Intn(p.n))
	}
	return []string{"1", "'(1 2)", "'(1 (2 3))", "nil", "'(:v1 2)"}[p.r.Intn(5)]
}

// chosen writes an optional parameter, or the list of a key parameter.
func (p *writer) chosen(key bool, depth int) string {
	init := p.init()
	if p.r.Intn(3) == 0 {
		return p.name()
	}
	target := p.target(depth)
	if key && (target[0] == '(' || p.r.Intn(2) == 0) {
		p.keys++
		target = fmt.Sprint("(", []string{":k", "k"}[p.r.Intn(2)], p.keys, " ", target, ")")
	}
	switch p.r.Intn(3) {
	case 0:
		return "(" + target + ")"
	case 1:
		return "(" + target + " " + init + ")"
	}
	return "(" + target + " " + init + " " + p.name() + ")"
}

func (p *writer) list(outer bool, depth int) string {
	var l []string
	maybe := func() bool { return p.r.Intn(3) == 0 }
	environment := func() {
		if p.macro && outer && p.r.Intn(8) == 0 {
			l = append(l, "&environment", p.name())
			outer = false
		}
	}
	if p.macro && outer && maybe() {
		l = append(l, "&whole", p.name())
	}
	for range p.r.Intn(3) {
		environment()
		l = append(l, p.target(depth))
	}
	if maybe() {
		l = append(l, "&optional")
		for range p.r.Intn(3) {
			environment()
			l = append(l, p.chosen(false, depth))
		}
	}
	environment()
	if maybe() {
		if p.macro && len(l) > 0 && maybe() {
			return "(" + strings.Join(l, " ") + " . " + p.name() + ")"
		}
		l = append(l, []string{"&rest", "&body"}[p.r.Intn(2)], p.name())
	}
	if maybe() {
		l = append(l, "&key")
		for range p.r.Intn(3) {
			environment()
			l = append(l, p.chosen(true, depth))
		}
		if maybe() {
			l = append(l, "&allow-other-keys")
		}
	}
	environment()
	if maybe() {
		l = append(l, "&aux", "("+p.name()+" 7)", p.name())
	}
	return "(" + strings.Join(l, " ") + ")"
}

// argument writes a random list of arguments, of which some fit.
func (p *writer) arguments(depth int) []string {
	var l []string
	for range p.r.Intn(4) {
		x := []string{"1", "nil", "a"}[p.r.Intn(3)]
		if depth > 0 && p.r.Intn(2) == 0 {
			x = "(" + strings.Join(p.arguments(depth-1), " ") + ")"
			if p.r.Intn(6) == 0 && len(x) > 2 {
				x = x[:len(x)-1] + " . 9)"
			}
		}
		l = append(l, x)
	}
	for range p.r.Intn(3) {
		l = append(l, fmt.Sprint([]string{":k", ":v", "k"}[p.r.Intn(3)], p.r.Intn(12)), "5")
	}
	if p.r.Intn(4) == 0 {
		l = append(l, ":allow-other-keys", []string{"t", "nil"}[p.r.Intn(2)])
	}
	return l
}

// fitting writes a list of arguments that fits, but for what p changes by chance.
func (p *writer) fitting(l lambda.List, depth int) []string {
	var out []string
	value := func(item lambda.Item) string {
		if item.Pattern == nil {
			return []string{"1", "nil", "a", "(1 2)"}[p.r.Intn(4)]
		}
		return "(" + strings.Join(p.fitting(*item.Pattern, depth-1), " ") + ")"
	}
	full := true
	for _, item := range l.Items {
		switch item.Kind {
		case lambda.Required:
			out = append(out, value(item))
		case lambda.Optional:
			if full = full && p.r.Intn(3) > 0; full {
				out = append(out, value(item))
			}
		}
	}
	if !full {
		return out
	}
	for _, item := range l.Items {
		if item.Kind == lambda.Key && p.r.Intn(3) > 0 {
			out = append(out, text(item.Key), value(item))
		}
		if item.Kind == lambda.Rest && !l.Keys {
			out = append(out, p.arguments(0)...)
		}
	}
	return out
}

// P18.4: each variable is bound once, in the order of Variables; pairs of different keys may change their places; further arguments change nothing but the rest, the whole and keys.
func TestMatchLaws(t *testing.T) {
	r := rand.New(rand.NewSource(184))
	matched := 0
	for range 3000 {
		p := writer{r: r, macro: true}
		l := parsed(t, p.list(true, 2), true)
		args := items(t, strings.Join(p.fitting(l, 2), " "))
		if r.Intn(3) == 0 {
			args = items(t, strings.Join(p.arguments(2), " "))
		}
		b, e := lambda.Match(l, args)
		least, most := lambda.Arity(l)
		equal(t, "ErrSize at the outside", e == api.ErrSize && !inside(l), (len(args) < least || most >= 0 && len(args) > most) && !inside(l))
		if e != api.OK {
			continue
		}
		matched++
		var vars []api.Form
		for _, x := range b {
			vars = append(vars, x.Var)
		}
		equal(t, "variables", texts(vars), texts(lambda.Variables(l)))
		if more, e := lambda.Match(l, append(slices.Clone(args), forms.Nil(), forms.Nil())); e == api.OK {
			for i, x := range more {
				if kind := kindOf(l, i); kind == lambda.Required && text(x.Value) != text(b[i].Value) {
					t.Errorf("further arguments changed %s", text(x.Var))
				}
			}
		}
		// two pairs change their places
		n := 0
		for _, item := range l.Items {
			if item.Kind == lambda.Required || item.Kind == lambda.Optional {
				n++
			}
		}
		if k := n; l.Keys && len(args) >= n+4 && !forms.Equal(args[k], args[k+2]) {
			other := slices.Clone(args)
			other[k], other[k+1], other[k+2], other[k+3] = args[k+2], args[k+3], args[k], args[k+1]
			b2, e := lambda.Match(l, other)
			fails(t, "with pairs in another order", e, api.OK)
			for i := range b2 {
				if kind := kindOf(l, i); kind != lambda.Rest && kind != lambda.Whole {
					equal(t, "with pairs in another order", b2[i], b[i])
				}
			}
		}
	}
	if matched < 800 {
		t.Errorf("only %d lists matched", matched)
	}
}

// inside reports whether there are patterns, whose errors may be the same.
func inside(l lambda.List) bool {
	return slices.ContainsFunc(l.Items, func(item lambda.Item) bool { return item.Pattern != nil })
}

// kindOf returns the kind of the item to which the variable i belongs.
func kindOf(l lambda.List, i int) int {
	for _, item := range l.Items {
		n := len(lambda.Variables(lambda.List{Items: []lambda.Item{item}}))
		if i < n {
			return item.Kind
		}
		i -= n
	}
	return 0
}

// binding is a model of Bind: it binds the variables of a list to the parts of a value, with init forms; false, if it does not fit.
func binding(l lambda.List, whole api.Form, vars map[string]api.Form) bool {
	args, tail := forms.Spread(whole)
	least, most := lambda.Arity(l)
	rest, n := false, 0
	for _, item := range l.Items {
		rest = rest || item.Kind == lambda.Rest
		if item.Kind <= lambda.Optional {
			n++
		}
	}
	left := args[min(n, len(args)):]
	fits := whole.Kind == api.FormCons || forms.IsNil(whole)
	fits = fits && len(args) >= least && (most < 0 || len(args) <= most) && (rest || forms.IsNil(tail)) && (!l.Keys || len(left)%2 == 0 && known(l, left))
	if !fits {
		return false
	}
	for _, item := range l.Items {
		value, given := forms.Nil(), true
		switch {
		case item.Kind <= lambda.Optional:
			if given = len(args) > 0; given {
				value, args = args[0], args[1:]
			}
		case item.Kind == lambda.Rest:
			value = forms.Dotted(left, tail)
		case item.Kind == lambda.Whole:
			value = whole
		case item.Kind == lambda.Key:
			value, given = firstOf(left, item.Key)
		default:
			given = false
		}
		if !given {
			value = valueOf(item.Init, vars)
		}
		if item.Pattern == nil {
			vars[item.Var.Text] = value
		} else if !binding(*item.Pattern, value, vars) {
			return false
		}
		if item.Given.Kind != 0 {
			vars[item.Given.Text] = forms.Nil()
			if given {
				vars[item.Given.Text] = forms.Symbol("COMMON-LISP", "T")
			}
		}
	}
	return true
}

func firstOf(left []api.Form, key api.Form) (api.Form, bool) {
	for i := 0; i+1 < len(left); i += 2 {
		if forms.Equal(left[i], key) {
			return left[i+1], true
		}
	}
	return api.Form{}, false
}

func known(l lambda.List, left []api.Form) bool {
	allow := forms.Symbol("KEYWORD", "ALLOW-OTHER-KEYS")
	if x, ok := firstOf(left, allow); l.Allow || ok && !forms.IsNil(x) {
		return true
	}
	for i := 0; i < len(left); i += 2 {
		isKey := func(item lambda.Item) bool { return item.Kind == lambda.Key && forms.Equal(item.Key, left[i]) }
		if !forms.Equal(left[i], allow) && !slices.ContainsFunc(l.Items, isKey) {
			return false
		}
	}
	return true
}

// valueOf evaluates an init form.
func valueOf(f api.Form, vars map[string]api.Form) api.Form {
	if f.Kind == api.FormCons {
		return f.Kids[1]
	}
	if x, ok := vars[f.Text]; ok && f.Kind == api.FormSymbol {
		return x
	}
	return f
}

// user gives the symbols of the tests a home that worlds have.
func user(f api.Form) api.Form {
	if f.Home == "USER" {
		f.Home = "COMMON-LISP-USER"
	}
	for i, kid := range f.Kids {
		f.Kids[i] = user(kid)
	}
	return f
}

// P18.1: the form that Bind returns, run by the meaning, binds what Match and the init forms say.
func TestBind(t *testing.T) {
	r := rand.New(rand.NewSource(185))
	w, _ := lib.New(api.MaxWords, 1000)
	fitted, misfits := 0, 0
	for range 3000 {
		if w.Heap().Used() > 50000 {
			w, _ = lib.New(api.MaxWords, 1000)
		}
		p := writer{r: r, macro: true}
		source := p.list(true, 2)
		l := parsed(t, source, true)
		args := p.fitting(l, 2)
		if r.Intn(3) == 0 {
			args = p.arguments(2)
		}
		whole := form(t, "("+strings.Join(args, " ")+")")
		if r.Intn(20) == 0 {
			whole = form(t, []string{"5", "(1 . 2)", "a"}[r.Intn(3)])
		}
		body := forms.Call("LIST", lambda.Variables(l))
		next := r.Intn(1000)
		f, after, e := lambda.Bind(l, forms.Call("QUOTE", []api.Form{whole}), []api.Form{body}, next)
		fails(t, "Bind", e, api.OK)
		fresh(t, f, next, after)
		inOrder(t, f, lambda.Variables(l))
		c, e := core.Convert(user(f), nil)
		if e == api.ErrSize {
			continue
		}
		fails(t, "Convert", e, api.OK)
		end, _ := meaning.Run(w, c, 20000)
		vars := map[string]api.Form{}
		if !binding(l, whole, vars) {
			misfits++
			got := ""
			if end.Kind == lib.EndFault {
				x, _ := w.Show(end.Fault.Data[0])
				got = end.Fault.Type + " " + x.Text
			}
			equal(t, source+" and "+text(whole), got, "UNDEFINED-FUNCTION %BAD-FORM")
			continue
		}
		fitted++
		var want []api.Form
		for _, v := range lambda.Variables(l) {
			want = append(want, vars[v.Text])
		}
		got := api.Form{}
		if end.Kind == lib.EndValues {
			got, _ = w.Show(end.Values[0])
			got, _ = forms.Plain(got)
		}
		equal(t, source+" and "+text(whole), text(got), text(user(forms.List(want))))
	}
	if fitted < 500 || misfits < 500 {
		t.Errorf("%d lists fitted, %d did not", fitted, misfits)
	}
}

// fresh checks the numbers of fresh variables.
func fresh(t *testing.T, f api.Form, next, after int) {
	t.Helper()
	n := 0
	if f.Kind == api.FormSymbol && f.Home == "%" {
		if _, err := fmt.Sscan(f.Text, &n); err != nil || n < next || n >= after {
			t.Errorf("the fresh variable %s is not from %d to %d", f.Text, next, after)
		}
	}
	for _, kid := range f.Kids {
		fresh(t, kid, next, after)
	}
}

// inOrder checks that the bindings of a LET* have the variables in their order, and fresh ones in between.
func inOrder(t *testing.T, f api.Form, vars []api.Form) {
	t.Helper()
	bindings, _ := forms.Items(f.Kids[1])
	var got []api.Form
	for _, b := range bindings {
		if b.Kids[0].Home != "%" {
			got = append(got, b.Kids[0])
		}
	}
	equal(t, "the bindings of "+text(f.Kids[0]), text(f.Kids[0])+" "+texts(got), "let* "+texts(vars))
}
