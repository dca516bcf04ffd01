package pretty_test

import (
	"math/rand"
	"slices"
	"strings"
	"testing"

	"commonform/api"
	"commonform/forms"
	"commonform/pretty"
	"commonform/printer"
	"commonform/reader"
	"commonform/token"
)

func node(kind int, text string, kids ...api.Form) api.Form {
	return api.Form{Kind: kind, Text: text, Kids: kids}
}

func sym(name string) api.Form { return forms.Symbol("P", name) }

func lisp(name string) api.Form { return forms.Symbol("COMMON-LISP", name) }

func list(l ...api.Form) api.Form { return forms.List(l) }

func call(name string, l ...api.Form) api.Form { return forms.Call(name, l) }

func vector(l ...api.Form) api.Form { return node(api.FormVector, "", l...) }

func mark(name string, f api.Form) api.Form { return list(forms.Symbol("READER", name), f) }

func label(n string, f api.Form) api.Form { return node(api.FormLabel, n, f) }

func ref(n string) api.Form { return node(api.FormRef, n) }

// usual returns the usual options of the package P, changed by functions.
func usual(changes ...func(o *printer.Options)) printer.Options {
	o := printer.Standard("P")
	o.Uses = []string{"COMMON-LISP"}
	for _, change := range changes {
		change(&o)
	}
	return o
}

func bare(o *printer.Options)   { o.Escape = false }
func circle(o *printer.Options) { o.Circle = true }

func length(n int) func(o *printer.Options) { return func(o *printer.Options) { o.Length = n } }

func level(n int) func(o *printer.Options) { return func(o *printer.Options) { o.Level = n } }

// P9.1: the usual styles.
func TestStyles(t *testing.T) {
	want := "DEFUN 2, DEFMACRO 2, LAMBDA 1, LET 1, LET* 1, FLET 1, LABELS 1, MACROLET 1, SYMBOL-MACROLET 1, WHEN 1, UNLESS 1, DOLIST 1, DOTIMES 1, BLOCK 1, CATCH 1, EVAL-WHEN 1, HANDLER-BIND 1, PROGN 0, UNWIND-PROTECT 1, MULTIPLE-VALUE-BIND 2, DESTRUCTURING-BIND 2, DEFCLASS 2, CASE 1, COND 0, IF 1"
	var words []string
	for _, x := range pretty.Styles() {
		words = append(words, x.Name+" "+string(rune('0'+x.Args)))
	}
	if got := strings.Join(words, ", "); got != want {
		t.Errorf("Styles = %s", got)
	}
	pretty.Styles()[0].Name = "X"
	if pretty.Styles()[0].Name != "DEFUN" {
		t.Error("Styles share their memory")
	}
}

// P9.1: the operations of forms.
func TestLayout(t *testing.T) {
	a, b, c, one, two := sym("A"), sym("B"), sym("C"), node(api.FormInt, "1"), node(api.FormInt, "2")
	styles := []pretty.Style{{Name: "DEFUN", Args: 2}, {Name: "PROGN", Args: 0}, {Name: "LET", Args: 1}, {Name: "LET", Args: 0}}
	linear, fill := newline(pretty.Linear), newline(pretty.Fill)
	for i, x := range []struct {
		o    printer.Options
		f    api.Form
		want []pretty.Op
	}{
		{usual(), a, ops(text("a"))}, {usual(), one, ops(text("1"))}, {usual(), forms.Nil(), ops(text("nil"))}, {usual(), node(api.FormString, "x y"), ops(text("\"x y\""))}, {usual(bare), node(api.FormString, ""), ops(text(""))}, {usual(), node(api.FormBits, "01"), ops(text("#*01"))}, {usual(), node(api.FormComplex, "", one, two), ops(text("#C(1 2)"))},
		// calls without a style
		{usual(), list(a), ops(open("("), text("a"), end(")"))}, {usual(), list(a, b), ops(open("("), text("a"), text(" "), here(0), text("b"), end(")"))}, {usual(), list(a, b, c), ops(open("("), text("a"), text(" "), here(0), text("b"), text(" "), linear, text("c"), end(")"))}, {usual(), list(sym("DEFUN"), b, c), ops(open("("), text("defun"), text(" "), here(0), text("b"), text(" "), linear, text("c"), end(")"))}, {usual(), forms.Dotted([]api.Form{a}, b), ops(open("("), text("a"), text(" "), here(0), text(". "), text("b"), end(")"))}, {usual(), forms.Dotted([]api.Form{a, b}, vector()), ops(open("("), text("a"), text(" "), here(0), text("b"), text(" "), linear, text(". "), open("#("), end(")"), end(")"))},
		// styles
		{usual(), call("DEFUN", a, b, c, one), ops(open("("), text("defun"), text(" "), indent(3), text("a"), text(" "), fill, text("b"), text(" "), indent(1), linear, text("c"), text(" "), indent(1), linear, text("1"), end(")"))}, {usual(), call("LET", a, b), ops(open("("), text("let"), text(" "), indent(3), text("a"), text(" "), indent(1), linear, text("b"), end(")"))}, {usual(), call("PROGN", a, b), ops(open("("), text("progn"), text(" "), indent(3), indent(1), linear, text("a"), text(" "), indent(1), linear, text("b"), end(")"))}, {usual(), call("PROGN"), ops(open("("), text("progn"), end(")"))}, {usual(), forms.Dotted([]api.Form{lisp("DEFUN"), a}, b), ops(open("("), text("defun"), text(" "), indent(3), text("a"), text(" "), fill, text(". "), text("b"), end(")"))}, {usual(), forms.Dotted([]api.Form{lisp("PROGN")}, b), ops(open("("), text("progn"), text(" "), indent(3), indent(1), linear, text(". "), text("b"), end(")"))}, {usual(), call("IF", a, b), ops(open("("), text("if"), text(" "), here(0), text("a"), text(" "), linear, text("b"), end(")"))}, {usual(), call("let", a, b), ops(open("("), text("|let|"), text(" "), here(0), text("a"), text(" "), linear, text("b"), end(")"))},
		// limits
		{usual(length(1)), call("DEFUN", a, b), ops(open("("), text("defun"), text(" "), indent(3), text("..."), end(")"))}, {usual(length(2)), call("LET", a, b), ops(open("("), text("let"), text(" "), indent(3), text("a"), text(" "), indent(1), linear, text("..."), end(")"))}, {usual(length(0)), list(a, b), ops(open("("), text("..."), end(")"))}, {usual(length(1)), forms.Dotted([]api.Form{a, b}, c), ops(open("("), text("a"), text(" "), here(0), text("..."), end(")"))}, {usual(level(0)), list(a), ops(text("#"))}, {usual(level(1)), list(list(a), vector(b)), ops(open("("), text("#"), text(" "), fill, text("#"), end(")"))}, {usual(level(0)), node(api.FormArray, "1 1", a), ops(text("#2A#"))}, {usual(level(1)), node(api.FormArray, "1 1", a), ops(open("#2A("), text("#"), end(")"))},
		// lists that are no calls, vectors and arrays
		{usual(), list(list(a), b, c), ops(open("("), open("("), text("a"), end(")"), text(" "), fill, text("b"), text(" "), fill, text("c"), end(")"))}, {usual(), list(one, two), ops(open("("), text("1"), text(" "), fill, text("2"), end(")"))}, {usual(), forms.Dotted([]api.Form{one}, two), ops(open("("), text("1"), text(" "), fill, text(". "), text("2"), end(")"))}, {usual(), list(call("QUOTE", a), b), ops(open("("), text("'"), text("a"), text(" "), fill, text("b"), end(")"))}, {usual(), list(forms.Nil(), b, c), ops(open("("), text("nil"), text(" "), here(0), text("b"), text(" "), linear, text("c"), end(")"))}, {usual(), vector(), ops(open("#("), end(")"))}, {usual(), vector(a, b, c), ops(open("#("), text("a"), text(" "), fill, text("b"), text(" "), fill, text("c"), end(")"))}, {usual(), vector(lisp("LET"), b), ops(open("#("), text("let"), text(" "), fill, text("b"), end(")"))}, {usual(), node(api.FormArray, "2 2", a, b, c, one), ops(open("#2A("), open("("), text("a"), text(" "), fill, text("b"), end(")"), text(" "), fill, open("("), text("c"), text(" "), fill, text("1"), end(")"), end(")"))}, {usual(), node(api.FormArray, "1 1 1", list(a)), ops(open("#3A("), open("("), open("("), open("("), text("a"), end(")"), end(")"), end(")"), end(")"))}, {usual(), node(api.FormArray, "2 0"), ops(open("#2A("), open("("), end(")"), text(" "), fill, open("("), end(")"), end(")"))}, {usual(), node(api.FormArray, "", list(a)), ops(text("#0A"), open("("), text("a"), end(")"))}, {usual(func(o *printer.Options) { o.Array = false }), list(one, vector(a), node(api.FormArray, "", a), node(api.FormBits, "1")), ops(open("("), text("1"), text(" "), fill, text("#<VECTOR>"), text(" "), fill, text("#<ARRAY>"), text(" "), fill, text("#<BIT-VECTOR>"), end(")"))},
		// characters in front, and labels
		{usual(), call("QUOTE", list(a)), ops(text("'"), open("("), text("a"), end(")"))}, {usual(), mark("BACKQUOTE", mark("COMMA", sym("@A"))), ops(text("`"), text(", "), text("@a"))}, {usual(), mark("BACKQUOTE", mark("SPLICE", a)), ops(text("`"), text(",@"), text("a"))}, {usual(), call("FUNCTION", a), ops(text("#'"), text("a"))}, {usual(), mark("COMMA", a), ops(open("("), text("reader::comma"), text(" "), here(0), text("a"), end(")"))}, {usual(func(o *printer.Options) { o.Abbrev = false }), call("QUOTE", a), ops(open("("), text("quote"), text(" "), here(0), text("a"), end(")"))},
		{usual(circle), label("5", list(ref("5"), a)), ops(text("#0="), open("("), text("#0#"), text(" "), fill, text("a"), end(")"))}, {usual(circle), forms.Dotted([]api.Form{a}, label("1", list(ref("1")))), ops(open("("), text("a"), text(" "), here(0), text(". "), text("#0="), open("("), text("#0#"), end(")"), end(")"))}, {usual(), list(label("1", list(a)), ref("1")), ops(open("("), open("("), text("a"), end(")"), text(" "), fill, open("("), text("a"), end(")"), end(")"))},
	} {
		got, e := pretty.Layout(x.o, styles, x.f)
		if !slices.Equal(got, x.want) || e != api.OK {
			t.Errorf("%d: Layout(%v) = %v, %v; want %v", i, x.f, got, e, x.want)
		}
	}
}

// P9.1: errors, in their order.
func TestLayoutErrors(t *testing.T) {
	one := node(api.FormInt, "1")
	wrong := usual(func(o *printer.Options) { o.Base = 1 })
	many := make([]pretty.Style, 101)
	many[0].Args = 11
	var numbers []api.Form
	for range 1500 {
		numbers = append(numbers, one)
	}
	deep := node(api.FormArray, "1 1 1", one)
	for range 98 {
		deep = list(deep)
	}
	huge := node(api.FormString, strings.Repeat("x", 20000))
	for i, c := range []struct {
		o      printer.Options
		styles []pretty.Style
		f      api.Form
		want   api.Errno
	}{
		{wrong, many, api.Form{}, api.ErrArg}, {usual(func(o *printer.Options) { o.Uses = make([]string, 65) }), []pretty.Style{{Args: 11}}, api.Form{}, api.ErrSize}, {usual(), many, api.Form{}, api.ErrSize}, {usual(), []pretty.Style{{}, {Args: -1}}, api.Form{}, api.ErrArg}, {usual(), []pretty.Style{{Args: 11}}, api.Form{}, api.ErrArg}, {usual(), nil, api.Form{}, api.ErrForm}, {usual(), nil, label("1", list(ref("1"))), forms.ErrCircle}, {usual(), nil, ref("1"), forms.ErrLabel}, {usual(func(o *printer.Options) { o.Readable = true }), nil, node(api.FormArray, "0 1"), printer.ErrReadable}, {usual(bare), nil, list(huge, huge, huge, huge, huge, huge), api.ErrLarge},
		{usual(), nil, vector(numbers...), api.ErrSize}, {usual(bare), nil, list(huge), api.ErrSize}, {usual(), nil, deep, pretty.ErrBlock}, {usual(), nil, deep.Kids[0], api.OK}, {usual(bare), nil, huge, api.OK}, {usual(), make([]pretty.Style, 100), one, api.OK}, {usual(), []pretty.Style{{Args: 10}, {Name: "\xff"}}, one, api.OK},
	} {
		l, e := pretty.Layout(c.o, c.styles, c.f)
		if e != c.want || (l == nil) != (e != api.OK) {
			t.Errorf("%d: Layout has %d operations, %v; want %v", i, len(l), e, c.want)
		}
		if s, e := pretty.Print(c.o, c.f, 0, 0); s != "" || c.want != api.OK && len(c.styles) == 0 && e != c.want || c.want == api.OK && e != api.ErrArg {
			t.Errorf("%d: Print = %.80q, %v; want %v", i, s, e, c.want)
		}
	}
}

// P9.1: forms in lines.
func TestPrint(t *testing.T) {
	x := sym("X")
	square := call("DEFUN", sym("F"), list(x), call("LIST", x, x))
	long := call("LET", list(list(sym("AAA"), node(api.FormInt, "1")), list(sym("BBB"), node(api.FormInt, "2"))), call("PRINT", sym("AAA")), call("PROGN", sym("AAA"), sym("BBB")))
	for i, c := range []struct {
		f            api.Form
		width, miser int
		want         string
	}{
		{square, 20, 0, "(defun f (x)\n  (list x x))"}, {square, 40, 0, "(defun f (x) (list x x))"}, {square, 11, 0, "(defun f\n    (x)\n  (list x\n        x))"}, {square, 11, 11, "(defun f\n (x)\n (list x\n  x))"}, {list(sym("FOO"), sym("A"), sym("B")), 7, 0, "(foo a\n     b)"}, {list(sym("FOO"), sym("A"), sym("B")), 9, 0, "(foo a b)"}, {list(sym("FOO"), sym("A"), sym("B")), 8, 8, "(foo a\n b)"},
		{long, 30, 0, "(let ((aaa 1) (bbb 2))\n  (print aaa)\n  (progn aaa bbb))"}, {long, 17, 0, "(let ((aaa 1)\n      (bbb 2))\n  (print aaa)\n  (progn\n    aaa\n    bbb))"}, {vector(x, x, x, x, x), 8, 0, "#(x x x\n  x x)"}, {call("QUOTE", list(x, x, x)), 7, 0, "'(x x\n    x)"},
	} {
		if s, e := pretty.Print(usual(), c.f, c.width, c.miser); s != c.want || e != api.OK {
			t.Errorf("%d: Print in %d, %d = %q, %v; want %q", i, c.width, c.miser, s, e, c.want)
		}
	}
	for _, c := range [][2]int{{0, 0}, {201, 0}, {80, -1}, {80, 201}} {
		if s, e := pretty.Print(usual(), x, c[0], c[1]); s != "" || e != api.ErrArg {
			t.Errorf("Print in %v = %q, %v", c, s, e)
		}
	}
}

// maker makes random forms that are right.
type maker struct {
	r   *rand.Rand
	met []string // the labels to which the walk came
}

func (m *maker) atom() api.Form {
	switch m.r.Intn(8) {
	case 0, 1:
		return lisp([]string{"DEFUN", "LET", "PROGN", "CAR", "NIL", "QUOTE"}[m.r.Intn(6)])
	case 2, 3, 4:
		return forms.Symbol([]string{"P", "P", "Q", "", "KEYWORD"}[m.r.Intn(5)], []string{"A", "LONG-NAME", "b c", "@D"}[m.r.Intn(4)])
	case 5:
		return node(api.FormString, []string{"", "a b", "x\ny ", "\\"}[m.r.Intn(4)])
	case 6:
		return node(api.FormChar, []string{"a", " ", "@"}[m.r.Intn(3)])
	}
	return node(api.FormInt, "12")
}

// form returns a form; plain says that it has to be no label and no reference.
func (m *maker) form(depth int, plain bool) api.Form {
	n := m.r.Intn(12)
	switch {
	case !plain && n == 0 && len(m.met) > 0:
		return ref(m.met[m.r.Intn(len(m.met))])
	case !plain && n == 1:
		text := string(rune('1' + len(m.met)))
		if len(m.met) == 9 {
			return m.atom()
		}
		m.met = append(m.met, text)
		return label(text, m.form(depth, true))
	case depth == 0 || n < 4:
		return m.atom()
	case n < 5:
		x := m.form(depth-1, false)
		return list([]api.Form{lisp("QUOTE"), forms.Symbol("READER", "BACKQUOTE"), forms.Symbol("READER", "COMMA"), forms.Symbol("READER", "SPLICE")}[m.r.Intn(4)], x)
	case n < 6:
		return node(api.FormArray, "2 1", m.kids(depth, 2)...)
	case n < 7:
		return vector(m.kids(depth, m.r.Intn(4))...)
	case n < 8:
		return forms.Dotted(m.kids(depth, 1+m.r.Intn(3)), m.atom())
	}
	return list(m.kids(depth, 1+m.r.Intn(5))...)
}

func (m *maker) kids(depth, n int) []api.Form {
	var kids []api.Form
	for range n {
		kid := m.form(depth-1, false)
		kids = append(kids, kid)
	}
	return kids
}

// P9.6: the text of a layout is that of the printer; in lines it is read as the same form.
func TestLayoutRandom(t *testing.T) {
	r := rand.New(rand.NewSource(95))
	for range 10000 {
		o := usual()
		o.Escape, o.Circle, o.Array, o.Abbrev = r.Intn(4) > 0, r.Intn(2) == 0, r.Intn(4) > 0, r.Intn(4) > 0
		o.Length, o.Level = r.Intn(12)*r.Intn(2)-1, r.Intn(9)*r.Intn(2)-1
		if r.Intn(4) == 0 {
			o.Table, _ = token.Set(o.Table, '$', token.Multiple)
			o.Table.Case = r.Intn(4)
		}
		f := (&maker{r: r}).form(1+r.Intn(5), false)
		want, e := printer.Print(o, f)
		l, g := pretty.Layout(o, pretty.Styles(), f)
		if e != g {
			t.Fatalf("Layout(%v, %v): %v; Print: %v", o, f, g, e)
		}
		if e != api.OK {
			continue
		}
		if flat, e := pretty.Flat(l); flat != want || e != api.OK {
			t.Fatalf("Flat of Layout(%v, %v) = %q, %v; want %q", o, f, flat, e, want)
		}
		width, miser := 1+r.Intn(60), r.Intn(40)
		s, e := pretty.Print(o, f, width, miser)
		if e != api.OK {
			t.Fatalf("Print(%v, %v, %d, %d): %v", o, f, width, miser, e)
		}
		options := reader.Options{Table: o.Table, Base: o.Base, Double: o.Double, Package: o.Package}
		a, _, x := reader.One(options, want)
		b, _, y := reader.One(options, s)
		if o.Escape && (x != y || !forms.Equal(a.Form, b.Form)) {
			t.Fatalf("Print(%v, %v, %d, %d) = %q is read as %v, %v; %q as %v, %v", o, f, width, miser, s, b.Form, y, want, a.Form, x)
		}
	}
}
