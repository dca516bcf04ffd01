package forms_test

import (
	"slices"
	"strconv"
	"strings"
	"testing"

	"commonform/api"
	"commonform/forms"
)

// P1.1: which nodes are right.
func TestCheckNodes(t *testing.T) {
	one, vec := integer("1"), vector()
	home := func(f api.Form) api.Form {
		f.Home = "P"
		return f
	}
	right := []api.Form{
		sym("A"), forms.Symbol("", ""), forms.Symbol("P", "é"), integer("0"), integer("-5"), integer("123"), integer(strings.Repeat("9", 100)),
		leaf(api.FormRatio, "1/2"), leaf(api.FormRatio, "-3/2"), leaf(api.FormRatio, "999999999999999999/2"), leaf(api.FormRatio, "1234567890123456789/3"), leaf(api.FormRatio, "2/1000000000000000000"), leaf(api.FormSingle, "0123abcd"), leaf(api.FormSingle, "7f800000"), leaf(api.FormDouble, "0123456789abcdef"),
		node(api.FormComplex, "", one, one), node(api.FormComplex, "", one, leaf(api.FormRatio, "1/2")), node(api.FormComplex, "", leaf(api.FormRatio, "1/2"), one), node(api.FormComplex, "", leaf(api.FormSingle, "00000000"), leaf(api.FormSingle, "00000000")), node(api.FormComplex, "", leaf(api.FormDouble, "0000000000000000"), leaf(api.FormDouble, "0000000000000000")),
		leaf(api.FormChar, "a"), leaf(api.FormChar, "é"), leaf(api.FormChar, "\x00"), leaf(api.FormChar, "\U0010ffff"), str(""), str("a\nb"), leaf(api.FormBits, ""), leaf(api.FormBits, "0110"), cons(one, one), cons(one, one, vec), vec, vector(one),
		node(api.FormArray, "", one), node(api.FormArray, "1 1", one), node(api.FormArray, "2 1 2", one, one, one, one), node(api.FormArray, "0 2000"), node(api.FormArray, "2000 2000 2000 2000 2000 2000 0"), node(api.FormArray, "1 1 1 1 1 1 1", one),
		label("0", vec), label("999", one), cons(one, label("1", cons(one, one))),
	}
	for _, f := range right {
		if e := forms.Check(f); e != api.OK {
			t.Errorf("Check(%v) = %v", f, e)
		}
	}
	wrong := []api.Form{
		{}, leaf(-1, ""), leaf(15, ""), {Kind: api.FormSymbol, Text: "A", Kids: []api.Form{one}}, forms.Symbol("P", "\xff"), forms.Symbol("\xed\xa0\x80", "A"), home(one), home(leaf(api.FormChar, "a")), home(str("")), home(vec), home(cons(one, one)), home(label("0", vec)), home(node(api.FormComplex, "", one, one)), home(leaf(api.FormBits, "")), home(node(api.FormArray, "", one)),
		integer(""), integer("-"), integer("-0"), integer("00"), integer("-01"), integer("+1"), integer("1 "), integer("1/2"), integer("a"), integer("٣"), node(api.FormInt, "1", one),
		leaf(api.FormRatio, ""), leaf(api.FormRatio, "1"), leaf(api.FormRatio, "1/1"), leaf(api.FormRatio, "1/0"), leaf(api.FormRatio, "0/2"), leaf(api.FormRatio, "2/4"), leaf(api.FormRatio, "-2/4"), leaf(api.FormRatio, "1/-2"), leaf(api.FormRatio, "1/02"), leaf(api.FormRatio, "-0/2"), leaf(api.FormRatio, "1/2/3"), leaf(api.FormRatio, "999999999999999999/3"), leaf(api.FormRatio, "-999999999999999999/999999999999999996"), leaf(api.FormRatio, "/2"), leaf(api.FormRatio, "1/"), leaf(api.FormRatio, "07/3"), leaf(api.FormRatio, "+1/2"), leaf(api.FormRatio, "1/a"), leaf(api.FormRatio, "--1/2"),
		leaf(api.FormSingle, "0123ABCD"), leaf(api.FormSingle, "0123abc"), leaf(api.FormSingle, "0123abcde"), leaf(api.FormSingle, "0123abcg"), leaf(api.FormDouble, "0123abcd"), node(api.FormSingle, "00000000", one),
		node(api.FormComplex, ""), node(api.FormComplex, "", one), node(api.FormComplex, "", one, one, one), node(api.FormComplex, "x", one, one), node(api.FormComplex, "", one, integer("0")), node(api.FormComplex, "", one, leaf(api.FormSingle, "00000000")), node(api.FormComplex, "", leaf(api.FormSingle, "00000000"), leaf(api.FormDouble, "0000000000000000")), node(api.FormComplex, "", one, str("1")), node(api.FormComplex, "", label("0", one), one), node(api.FormComplex, "", one, node(api.FormComplex, "", one, one)), node(api.FormComplex, "", one, integer("00")), node(api.FormComplex, "", leaf(api.FormSingle, "00000000"), one),
		leaf(api.FormChar, ""), leaf(api.FormChar, "ab"), leaf(api.FormChar, "\xff"), leaf(api.FormChar, "\xed\xa0\x80"), node(api.FormChar, "a", one), str("\xff"), node(api.FormString, "", one), leaf(api.FormBits, "012"), leaf(api.FormBits, "a"), node(api.FormBits, "0", one),
		cons(), cons(one), node(api.FormCons, "x", one, one), cons(one, cons(one, one)), node(api.FormVector, "1", one),
		node(api.FormArray, "1", one), node(api.FormArray, "2", one, one), node(api.FormArray, "0"), node(api.FormArray, ""), node(api.FormArray, "", one, one), node(api.FormArray, "1 2", one), node(api.FormArray, "1  1", one), node(api.FormArray, " 1 1", one), node(api.FormArray, "1 1 ", one), node(api.FormArray, "01 1", one), node(api.FormArray, "0 2001"), node(api.FormArray, "0 99999999999999999999"), node(api.FormArray, "-1 1", one), node(api.FormArray, "1 1 1 1 1 1 1 1", one), node(api.FormArray, "2000 2000 2000 2000 2000 2000 2000"), node(api.FormArray, "x y"), node(api.FormArray, "\xff"),
		node(api.FormLabel, "0"), node(api.FormLabel, "0", vec, vec), label("", vec), label("1000", vec), label("01", vec), label("-1", vec), label("a", vec), ref(""), ref("1000"), ref("00"), node(api.FormRef, "0", vec),
	}
	for _, f := range wrong {
		if e := forms.Check(f); e != api.ErrForm {
			t.Errorf("Check(%v) = %v; want ErrForm", f, e)
		}
		if e := forms.Check(vector(label("1", vec), f)); e != api.ErrForm {
			t.Errorf("Check of a vector with %v = %v; want ErrForm", f, e)
		}
	}
}

// P1.1: sizes, and the order of errors.
func TestCheckOrder(t *testing.T) {
	one, vec := integer("1"), vector()
	for _, c := range []struct {
		what string
		f    api.Form
		want api.Errno
	}{
		{"the most nodes", vector(many(api.MaxForm-1, one)...), api.OK}, {"a node too many", vector(many(api.MaxForm, one)...), api.ErrSize}, {"the greatest depth", nested(api.MaxDepth), api.OK}, {"a greater depth", nested(api.MaxDepth + 1), api.ErrSize},
		{"too many nodes that are wrong", vector(many(api.MaxForm, api.Form{})...), api.ErrSize}, {"a wrong node ahead of a great depth", vector(api.Form{}, nested(api.MaxDepth)), api.ErrSize},
		{"a reference to nothing", ref("0"), forms.ErrLabel}, {"a reference ahead of its label", vector(ref("0"), label("0", vec)), forms.ErrLabel}, {"a reference behind its label", vector(label("0", vec), ref("0")), api.OK}, {"a reference within its label", label("0", vector(ref("0"))), api.OK}, {"a reference as the tail", label("0", cons(one, ref("0"))), api.OK},
		{"a label of a reference", label("0", ref("0")), forms.ErrLabel}, {"a label of a label", label("0", label("1", vec)), forms.ErrLabel}, {"a label twice", vector(label("0", vec), label("0", vec)), api.ErrTwice}, {"a label within itself", label("0", vector(label("0", vec))), api.ErrTwice},
		{"a label twice, of a label", vector(label("0", vec), label("0", label("1", vec))), api.ErrTwice}, {"a label of a label, then twice", vector(label("0", label("0", vec))), forms.ErrLabel}, {"a wrong reference, then a label twice", vector(label("0", vec), ref("1"), label("0", vec)), forms.ErrLabel}, {"a label twice, then a wrong reference", vector(label("0", vec), label("0", vec), ref("1")), api.ErrTwice}, {"a wrong reference, then a wrong node", vector(ref("1"), api.Form{}), api.ErrForm},
	} {
		if e := forms.Check(c.f); e != c.want {
			t.Errorf("%s: %v; want %v", c.what, e, c.want)
		}
	}
	// a tree without an end is too large
	loop := []api.Form{vec}
	loop[0] = node(api.FormVector, "", loop...)
	loop[0].Kids = loop
	if e := forms.Check(loop[0]); e != api.ErrSize {
		t.Errorf("a tree without an end: %v", e)
	}
}

// P1.3: sizes.
func TestSize(t *testing.T) {
	if n, d := forms.Size(list(sym("A"), list(sym("B")))); n != 6 || d != 3 {
		t.Errorf("Size = %d, %d", n, d)
	}
	if n, d := forms.Size(api.Form{}); n != 1 || d != 1 {
		t.Errorf("Size of nothing = %d, %d", n, d)
	}
	if n, d := forms.Size(nested(5000)); n != 5000 || d != 5000 {
		t.Errorf("Size of a deep tree = %d, %d", n, d)
	}
	for _, f := range random(t, 1, 200) {
		nodes, depth := forms.Size(f)
		sum, deepest := 1, 0
		for _, kid := range f.Kids {
			n, d := forms.Size(kid)
			sum += n
			deepest = max(deepest, d)
		}
		if nodes != sum || depth != deepest+1 {
			t.Errorf("Size of %v = %d, %d", f, nodes, depth)
		}
		if n, d := forms.Size(renamed(f)); n != nodes || d != depth {
			t.Errorf("Size of %v with other labels = %d, %d", f, n, d)
		}
	}
}

// P1.1: symbols, numbers, and equal trees.
func TestKinds(t *testing.T) {
	null := forms.Nil()
	if null.Kind != api.FormSymbol || null.Text != "NIL" || null.Home != "COMMON-LISP" || len(null.Kids) > 0 {
		t.Errorf("Nil = %v", null)
	}
	odd := null
	odd.Kids = []api.Form{integer("1")}
	for _, c := range []struct {
		f  api.Form
		is bool
	}{{null, true}, {odd, true}, {forms.Symbol("", "NIL"), false}, {forms.Symbol("COMMON-LISP", "nil"), false}, {str("NIL"), false}, {api.Form{Kind: api.FormString, Text: "NIL", Home: "COMMON-LISP"}, false}, {cons(), false}} {
		if forms.IsNil(c.f) != c.is || forms.Is(c.f, "COMMON-LISP", "NIL") != c.is {
			t.Errorf("IsNil(%v) = %v", c.f, forms.IsNil(c.f))
		}
	}
	if a := forms.Symbol("P", "A"); !forms.Is(a, "P", "A") || forms.Is(a, "Q", "A") || forms.Is(a, "P", "B") {
		t.Error("Is")
	}
	for kind := -1; kind < 17; kind++ {
		if forms.Number(leaf(kind, "")) != (kind >= api.FormInt && kind <= api.FormComplex) {
			t.Errorf("Number of the kind %d", kind)
		}
	}
	f := list(sym("A"), vector(str("x")))
	for _, g := range []api.Form{list(sym("B"), vector(str("x"))), list(sym("A"), vector(str("y"))), list(sym("A"), vector()), list(sym("A")), cons(sym("A"), vector(str("x")), sym("NIL")), vector(f.Kids...), list(forms.Symbol("", "A"), vector(str("x")))} {
		if forms.Equal(f, g) || forms.Equal(g, f) || !forms.Equal(g, g) {
			t.Errorf("Equal of %v", g)
		}
	}
	if !forms.Equal(vector(), api.Form{Kind: api.FormVector, Kids: []api.Form{}}) {
		t.Error("no Kids and an empty list of them are not Equal")
	}
}

// P1.1, P1.2: lists.
func TestLists(t *testing.T) {
	a, b, c := sym("A"), sym("B"), sym("C")
	equal(t, "List", forms.List([]api.Form{a, b}), cons(a, b, forms.Nil()))
	equal(t, "List of none", forms.List(nil), forms.Nil())
	equal(t, "Dotted", forms.Dotted([]api.Form{a}, list(b, c)), list(a, b, c))
	equal(t, "Dotted with a tail", forms.Dotted([]api.Form{a}, b), cons(a, b))
	equal(t, "Dotted of none", forms.Dotted(nil, list(b)), list(b))
	equal(t, "Dotted with a label", forms.Dotted([]api.Form{a}, label("1", list(b))), cons(a, label("1", list(b))))
	equal(t, "Dotted with a FormCons without Kids", forms.Dotted([]api.Form{a}, cons()), cons(a))
	equal(t, "Call", forms.Call("CAR", []api.Form{a}), list(forms.Symbol("COMMON-LISP", "CAR"), a))
	equal(t, "Call without arguments", forms.Call("F", nil), list(forms.Symbol("COMMON-LISP", "F")))
	for _, x := range []struct {
		f    api.Form
		want []api.Form
		ok   bool
	}{{forms.Nil(), nil, true}, {list(a, b), []api.Form{a, b}, true}, {cons(a, b), nil, false}, {cons(a), nil, false}, {cons(), nil, false}, {a, nil, false}, {vector(a, forms.Nil()), nil, false}, {label("0", list(a)), nil, false}, {cons(forms.Nil()), nil, false}} {
		l, ok := forms.Items(x.f)
		if ok != x.ok || !forms.Equal(vector(l...), vector(x.want...)) {
			t.Errorf("Items(%v) = %v, %v", x.f, l, ok)
		}
	}
	for _, x := range []struct{ f, elements, tail api.Form }{{cons(a, b), vector(a), b}, {list(a), vector(a), forms.Nil()}, {a, vector(), a}, {cons(a), vector(), cons(a)}, {cons(), vector(), cons()}, {vector(a, b), vector(), vector(a, b)}} {
		l, tail := forms.Spread(x.f)
		equal(t, "the elements of Spread", vector(l...), x.elements)
		equal(t, "the tail of Spread", tail, x.tail)
	}
}

func TestListLaws(t *testing.T) {
	l := random(t, 2, 60)
	for i := range len(l) - 4 {
		a, b, tail := l[i:i+2], l[i+2:i+3], l[i+3]
		items, ok := forms.Items(forms.List(a))
		equal(t, "Items of List", vector(items...), vector(a...))
		if !ok {
			t.Error("List is no proper list")
		}
		if tail.Kind != api.FormCons {
			elements, end := forms.Spread(forms.Dotted(a, tail))
			equal(t, "Spread of Dotted", vector(append(elements, end)...), vector(append(slices.Clone(a), tail)...))
		}
		equal(t, "Dotted of Dotted", forms.Dotted(a, forms.Dotted(b, tail)), forms.Dotted(slices.Concat(a, b), tail))
	}
}

// R4: results share no memory with arguments.
func TestMemory(t *testing.T) {
	spoil := func(f api.Form) {
		for i := range f.Kids {
			for k := range f.Kids[i].Kids {
				f.Kids[i].Kids[k] = str("spoilt")
			}
			f.Kids[i] = str("spoilt")
		}
	}
	inner := list(vector(sym("A"), sym("B")), label("1", vector(sym("C"))), cons(sym("D"), ref("1")))
	kept := list(vector(sym("A"), sym("B")), label("1", vector(sym("C"))), cons(sym("D"), ref("1")))
	args := make([]api.Form, 1, 8) // with room behind its end
	args[0] = inner
	spoil(forms.List(args))
	spoil(forms.Dotted(args, inner))
	spoil(forms.Dotted(nil, inner))
	spoil(forms.Dotted(args, inner.Kids[0]))
	spoil(forms.Call("F", args))
	for _, f := range []func(api.Form) (api.Form, api.Errno){forms.Normal, forms.Plain} {
		x, _ := f(inner)
		spoil(x)
	}
	l, _ := forms.Items(inner)
	spoil(vector(l...))
	l, tail := forms.Spread(cons(inner, inner.Kids[0]))
	spoil(vector(l...))
	spoil(tail)
	_, tail = forms.Spread(inner.Kids[0])
	spoil(tail)
	equal(t, "the argument", inner, kept)
	if args[:2][1].Kind != 0 {
		t.Error("the memory behind a list's end was changed")
	}
}

// P1.1: dimensions.
func TestDimensions(t *testing.T) {
	one := integer("1")
	for _, c := range []struct {
		f    api.Form
		want []int
		code api.Errno
	}{
		{node(api.FormArray, "2 1", one, one), []int{2, 1}, api.OK}, {node(api.FormArray, "", one), nil, api.OK}, {node(api.FormArray, "0 5 2000"), []int{0, 5, 2000}, api.OK}, {vector(one, one), []int{2}, api.OK}, {vector(), []int{0}, api.OK}, {str("aé\n"), []int{3}, api.OK}, {leaf(api.FormBits, "0110"), []int{4}, api.OK},
		{one, nil, api.ErrArg}, {sym("A"), nil, api.ErrArg}, {list(one), nil, api.ErrArg}, {api.Form{}, nil, api.ErrArg}, {label("0", vector()), nil, api.ErrArg}, {integer("x"), nil, api.ErrArg}, {ref("0"), nil, api.ErrArg},
		{str("\xff"), nil, api.ErrForm}, {vector(api.Form{}), nil, api.ErrForm}, {node(api.FormArray, "2", one, one), nil, api.ErrForm}, {leaf(api.FormBits, "2"), nil, api.ErrForm}, {vector(ref("0")), nil, forms.ErrLabel}, {vector(many(api.MaxForm, one)...), nil, api.ErrSize}, {vector(label("0", one), label("0", one)), nil, api.ErrTwice},
	} {
		d, e := forms.Dimensions(c.f)
		if !slices.Equal(d, c.want) || e != c.code {
			t.Errorf("Dimensions(%.100v) = %v, %v; want %v, %v", c.f, d, e, c.want, c.code)
		}
	}
}

// P1.1: what is wrong is told by each function of forms, with zero values.
func TestErrorsOfForms(t *testing.T) {
	for want, f := range map[api.Errno]api.Form{api.ErrSize: nested(api.MaxDepth + 1), api.ErrForm: vector(api.Form{}), api.ErrTwice: vector(label("0", vector()), label("0", vector())), forms.ErrLabel: vector(ref("5"))} {
		x, a := forms.Normal(f)
		y, b := forms.Plain(f)
		g, c := forms.Nodes(f)
		same1, d := forms.Same(f, vector(ref("1")))
		same2, h := forms.Same(vector(), f)
		if a != want || b != want || c != want || d != want || h != want || !empty(x) || !empty(y) || len(g) > 0 || same1 || same2 {
			t.Errorf("the error %v: %v, %v, %v, %v, %v", want, a, b, c, d, h)
		}
	}
}

func number(n int) string { return strconv.Itoa(n) }
