package lambda_test

import (
	"fmt"
	"math/rand"
	"reflect"
	"strings"
	"testing"

	"commonform/api"
	"commonform/forms"
	"commonform/lambda"
)

// P18.1: what lambda lists say.
func TestParse(t *testing.T) {
	for _, c := range []struct {
		list  string
		macro bool
		want  string
	}{
		{"()", false, ""},
		{"(a b)", false, "R a, R b"},
		{"(#:a)", false, "R #:a"},
		{"(a &optional (b 1 c) &rest d)", false, "R a, O b = 1 ? c, T d"},
		{"(&optional a (b) (c 1) (d (list) e))", false, "O a, O b, O c = 1, O d = (list) ? e"},
		{"(&optional)", false, ""},
		{"(&optional &rest r)", false, "T r"},
		{"(&body r)", false, "T r"},
		{"(&key)", false, "keys"},
		{"(&key &allow-other-keys)", false, "keys allow"},
		{"(&key a (b) (c 1) (d 2 e) ((f g)) ((:h i) 3 j))", false, "K a by :a, K b by :b, K c by :c = 1, K d by :d = 2 ? e, K g by f, K i by :h = 3 ? j keys"},
		{"(&key ((nil x)))", false, "K x by nil keys"},
		{"(&key a &allow-other-keys &aux b)", false, "K a by :a, A b keys allow"},
		{"(&aux a (b) (c 1))", false, "A a, A b, A c = 1"},
		{"(&aux)", false, ""},
		{"(x &optional y &rest z &key w &aux v)", false, "R x, O y, T z, K w by :w, A v keys"},
		{"(a (b (c)) ())", true, "R a, R (R b, R (R c)), R ()"},
		{"(a . b)", true, "R a, T b"},
		{"(&optional a . b)", true, "O a, T b"},
		{"(&whole w a)", true, "W w, R a"},
		{"(&whole w . a)", true, "W w, T a"},
		{"(&environment e)", true, "E e"},
		{"(&environment e . a)", true, "E e, T a"},
		{"(&whole w &environment e a)", true, "W w, E e, R a"},
		{"(a &environment e b)", true, "R a, E e, R b"},
		{"(&optional a &environment e b)", true, "O a, E e, O b"},
		{"(&optional &environment e b)", true, "E e, O b"},
		{"(&rest r &environment e &key k)", true, "T r, E e, K k by :k keys"},
		{"(&key a &environment e b)", true, "K a by :a, E e, K b by :b keys"},
		{"(&key a &environment e &allow-other-keys)", true, "K a by :a, E e keys allow"},
		{"(&key a &allow-other-keys &environment e)", true, "K a by :a, E e keys allow"},
		{"(&aux a &environment e b)", true, "A a, E e, A b"},
		{"(&optional ((a b) '(1 2) c) ((d)))", true, "O (R a, R b) = '(1 2) ? c, O (R d)"},
		{"(&optional (a b))", true, "O a = b"},
		{"(&key ((:k (a . b)) nil c))", true, "K (R a, T b) by :k ? c keys"},
		{"((a &optional b . c) (&key d &aux e))", true, "R (R a, O b, T c), R (K d by :d, A e keys)"},
		{"((&rest a) (&key b) (&key ((:b c))))", true, "R (T a), R (K b by :b keys), R (K c by :b keys)"},
	} {
		l, e := lambda.Parse(form(t, c.list), c.macro)
		equal(t, c.list, []any{said(l), e}, []any{c.want, api.OK})
	}
	l := parsed(t, "(a)", false)
	equal(t, "a required parameter", l.Items, []lambda.Item{{Kind: lambda.Required, Var: form(t, "a"), Init: forms.Nil()}})
}

// P18.1: what are no lambda lists, and what occurs twice in others.
func TestParseErrors(t *testing.T) {
	functions := []string{
		"a 5 (a . b) (nil) (t) (:a) (5) ((a)) (()) (\"a\") (&whole w) (&environment e) #1=(a) (#2=a #2#)",
		"(&rest) (&rest &rest r) (&rest r s) (&rest (a)) (&rest r &body s) (&rest r &optional o)",
		"(&optional &optional) (&key &key) (&aux &aux) (&aux a &key b) (&key a &rest b) (&aux a &optional b) (&key &optional a)",
		"(&allow-other-keys) (a &allow-other-keys) (&key a &allow-other-keys b) (&key &allow-other-keys &allow-other-keys) (&rest r &allow-other-keys) (&aux a &allow-other-keys)",
		"(&optional nil) (&optional ()) (&optional (a 1 b c)) (&optional (a . 1)) (&optional (5)) (&optional (a 1 5)) (&optional ((a))) (&optional &rest)",
		"(&key (5)) (&key ((5 a))) (&key ((:k))) (&key ((:k a b))) (&key ((:k . a))) (&key ((:k :a))) (&key ((:k (a)))) (&key (a 1 t)) (&key (a 1 b 2)) (&key ())",
		"(&aux (a 1 2)) (&aux ((a))) (&aux 5) (&aux ()) (&aux (a . 1)) (&aux &aux)",
	}
	macros := []string{
		"a (a &whole w) (&environment e &whole w) (&whole) (&whole w &whole v) (&whole (a)) (&whole nil) (&whole &environment e w)",
		"(&environment) (&environment 5) (&environment e &environment f) ((&whole w)) ((&environment e)) ((a &environment e)) (&rest &environment e r)",
		"(&rest r . s) (&key a . b) (&aux a . b) (&key a &allow-other-keys . b) (a . 5) (a . :b) (a . t) (&rest (a b))",
		"(&optional ()) (&key (())) (&key ((a))) (&aux ((a) 1)) (5) (#1=(a)) ((a . #2=(b))) (a . #3=(b))",
	}
	for i, all := range append(functions, macros...) {
		for _, f := range items(t, all) {
			_, e := lambda.Parse(f, i >= len(functions))
			fails(t, text(f), e, api.ErrForm)
		}
	}
	for _, c := range []struct {
		list  string
		macro bool
	}{
		{"(a a)", false}, {"(a &optional a)", false}, {"(a &optional (b 1 a))", false}, {"(&key a (b 1 a))", false},
		{"(&key a ((:a b)))", false}, {"(&key ((k a)) ((k b)))", false}, {"(a &aux a)", false}, {"(&aux a a)", false}, {"(&rest a &aux a)", false},
		{"(a (a))", true}, {"((a) (a))", true}, {"(&whole a a)", true}, {"(&environment a . a)", true}, {"((a) &optional ((b (a))))", true}, {"((&key a ((:a b))))", true},
	} {
		_, e := lambda.Parse(form(t, c.list), c.macro)
		fails(t, c.list, e, api.ErrTwice)
	}
	_, e := lambda.Parse(form(t, "(a a 5)"), false)
	fails(t, "twice, and no lambda list", e, api.ErrForm)
	_, e = lambda.Parse(api.Form{Kind: 99}, true)
	fails(t, "no form", e, api.ErrForm)
	deep := forms.Nil()
	for range 100 {
		deep = forms.List([]api.Form{deep})
	}
	_, e = lambda.Parse(deep, true)
	fails(t, "a deep form", e, api.ErrSize)
	ref := api.Form{Kind: api.FormRef, Text: "1"}
	_, e = lambda.Parse(ref, true)
	fails(t, "a reference", e, 30)
	parsed(t, "(#:a user2::a common-lisp::a a)", false) // variables of four packages
}

// P18.1: Variables, and P18.3: Arity.
func TestVariables(t *testing.T) {
	for _, c := range []struct {
		list        string
		vars        string
		least, most int
	}{
		{"()", "", 0, 0},
		{"(a &optional (b 1 c) &rest d)", "a b c d", 1, -1},
		{"(a b)", "a b", 2, 2},
		{"(a &optional b (c))", "a b c", 1, 3},
		{"(&key a)", "a", 0, -1},
		{"(&key)", "", 0, -1},
		{"(a &aux b)", "a b", 1, 1},
		{"(&whole w (a (b . c)) &optional ((d e) 1 f) &environment g &key ((:h (i)) 2 j) &aux k)", "w a b c d e f g i j k", 1, -1},
		{"((a b c) &optional ((d) nil e))", "a b c d e", 1, 2},
		{"(a . b)", "a b", 1, -1},
	} {
		l := parsed(t, c.list, true)
		equal(t, "Variables of "+c.list, texts(lambda.Variables(l)), c.vars)
		least, most := lambda.Arity(l)
		equal(t, "Arity of "+c.list, []int{least, most}, []int{c.least, c.most})
	}
}

// P18.2: Parse of Show is the list.
func TestShow(t *testing.T) {
	r := rand.New(rand.NewSource(182))
	for range 3000 {
		macro := r.Intn(2) == 0
		p := writer{r: r, macro: macro}
		source := p.list(true, 3)
		l, e := lambda.Parse(form(t, source), macro)
		fails(t, source, e, api.OK)
		f, e := lambda.Show(l)
		fails(t, "Show of "+source, e, api.OK)
		back, e := lambda.Parse(f, macro)
		if e != api.OK || !reflect.DeepEqual(back, l) {
			t.Errorf("Parse of Show of %s is %s", source, said(back))
		}
	}
	for _, garbage := range garbageLists() {
		f, e := lambda.Show(garbage)
		equal(t, short(garbage), []any{f, e}, []any{api.Form{}, api.ErrForm})
		_, _, e = lambda.Bind(garbage, forms.Nil(), nil, 0)
		fails(t, "Bind of "+short(garbage), e, api.ErrForm)
		lambda.Variables(garbage)
		lambda.Arity(garbage)
		lambda.Match(garbage, []api.Form{forms.Nil(), forms.Nil()})
		lambda.Match(garbage, []api.Form{forms.Nil()})
	}
}

// garbageLists are lists that Parse never returns.
func garbageLists() []lambda.List {
	a, nothing := forms.Symbol("USER", "A"), forms.Nil()
	endless := &lambda.List{}
	endless.Items = []lambda.Item{{Kind: lambda.Required, Pattern: endless, Init: nothing}}
	wide := &lambda.List{Items: []lambda.Item{{Kind: lambda.Required, Var: a, Init: nothing}}}
	for range 50 {
		item := lambda.Item{Kind: lambda.Required, Pattern: wide, Init: nothing}
		wide = &lambda.List{Items: []lambda.Item{item, item}}
	}
	one := func(items ...lambda.Item) lambda.List { return lambda.List{Items: items} }
	return []lambda.List{
		*endless, *wide, {Allow: true}, one(lambda.Item{}), one(lambda.Item{Kind: lambda.Required, Var: a}),
		one(lambda.Item{Kind: 99, Var: a, Init: nothing}), one(lambda.Item{Kind: lambda.Required, Var: nothing, Init: nothing}),
		one(lambda.Item{Kind: lambda.Required, Var: a, Init: a}), one(lambda.Item{Kind: lambda.Required, Var: a, Init: nothing, Key: a}),
		one(lambda.Item{Kind: lambda.Required, Var: a, Init: nothing, Given: a}), one(lambda.Item{Kind: lambda.Key, Var: a, Init: nothing, Key: a}),
		one(lambda.Item{Kind: lambda.Rest, Var: a, Init: nothing}, lambda.Item{Kind: lambda.Required, Var: forms.Symbol("USER", "B"), Init: nothing}),
		one(lambda.Item{Kind: lambda.Required, Var: a, Init: nothing}, lambda.Item{Kind: lambda.Required, Var: a, Init: nothing}),
		one(lambda.Item{Kind: lambda.Rest, Pattern: &lambda.List{}, Init: nothing}),
		one(lambda.Item{Kind: lambda.Required, Var: a, Pattern: &lambda.List{}, Init: nothing}),
		one(lambda.Item{Kind: lambda.Required, Var: api.Form{Kind: api.FormSymbol, Text: "X", Kids: []api.Form{a}}, Init: nothing}),
		{Items: make([]lambda.Item, 3000)},
	}
}

// P18.2: lists that are as large as can be.
func TestLarge(t *testing.T) {
	for _, c := range []struct {
		n    int
		tail string
	}{{1998, ""}, {1997, " . r"}, {1996, " &rest r"}, {1995, " &key k"}} {
		var names []string
		for i := range c.n {
			names = append(names, fmt.Sprint("v", i))
		}
		var l []api.Form
		for _, name := range names {
			l = append(l, forms.Symbol("USER", strings.ToUpper(name)))
		}
		f := forms.Dotted(l, forms.Nil())
		if c.tail != "" {
			f = forms.Dotted(l, form(t, "(a"+c.tail+")").Kids[1])
			if rest := form(t, "(a"+c.tail+")"); len(rest.Kids) > 2 {
				f = forms.Dotted(l, api.Form{Kind: api.FormCons, Kids: rest.Kids[1:]})
			}
		}
		list, e := lambda.Parse(f, true)
		fails(t, "Parse", e, api.OK)
		back, e := lambda.Show(list)
		fails(t, "Show of a large list", e, api.OK)
		again, e := lambda.Parse(back, true)
		equal(t, "Parse of it", []any{len(again.Items), e}, []any{len(list.Items), api.OK})
	}
}

// P18.2: patterns that are as deep as can be.
func TestDeep(t *testing.T) {
	f := forms.Nil()
	for range 99 {
		f = forms.List([]api.Form{f})
	}
	l, e := lambda.Parse(f, true)
	fails(t, "Parse", e, api.OK)
	back, e := lambda.Show(l)
	if e != api.OK || !forms.Equal(back, f) {
		t.Errorf("Show of deep patterns: %v", e)
	}
	b, e := lambda.Match(l, []api.Form{f.Kids[0]})
	equal(t, "Match", []any{b, e}, []any{[]lambda.Binding(nil), api.OK})
	_, e = lambda.Match(l, []api.Form{f})
	fails(t, "Match of a deeper list", e, api.ErrSize)
}

// P18.1: results share no memory with arguments.
func TestMemory(t *testing.T) {
	f := form(t, "(&key ((:k a) (list 1) b))")
	l, _ := lambda.Parse(f, false)
	want := said(l)
	f.Kids[1].Kids[0].Kids[1].Text = "Z"
	f.Kids[1].Kids[1].Kids[0].Text = "Z"
	equal(t, "a list whose form was changed", said(l), want)
	shown, _ := lambda.Show(l)
	shown.Kids[1].Kids[1].Kids[0].Text = "Z"
	equal(t, "a list whose Show was changed", said(l), want)
	args := items(t, "(1 2) 3")
	rest := parsed(t, "(a &rest r)", false)
	b, _ := lambda.Match(rest, args)
	b[0].Value.Kids[0].Text = "9"
	equal(t, "arguments", texts(args), "(1 2) 3")
	args[1].Text = "8"
	equal(t, "bindings", bound(b), "a=(9 2) r=(3)")
}
