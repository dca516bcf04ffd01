package reader_test

import (
	"math/rand"
	"strconv"
	"testing"

	"commonform/api"
	"commonform/forms"
	"commonform/reader"
)

func call(name string, l ...api.Form) api.Form { return forms.Call(name, l) }

func quoted(f api.Form) api.Form { return call("QUOTE", f) }

// P7.1: what backquotes become.
func TestBackquote(t *testing.T) {
	a, b, c, end := sym("A"), sym("B"), sym("C"), quoted(forms.Nil())
	one := func(f api.Form) api.Form { return call("LIST", f) }
	vectors := call("FUNCTION", lisp("VECTOR"))
	for i, x := range []struct{ f, want api.Form }{
		{a, quoted(a)}, {forms.Nil(), end}, {integer("1"), quoted(integer("1"))}, {str("x"), quoted(str("x"))}, {node(api.FormArray, "1 1", comma(a)), quoted(node(api.FormArray, "1 1", comma(a)))}, {mark("COMMA"), quoted(mark("COMMA"))},
		{comma(a), a}, {comma(list(a, b)), list(a, b)}, {comma(comma(a)), comma(a)},
		{list(a, comma(b), splice(c)), call("APPEND", one(quoted(a)), one(b), c, end)}, {cons(a, b), call("APPEND", one(quoted(a)), quoted(b))}, {list(a), call("APPEND", one(quoted(a)), end)}, {list(list(comma(a))), call("APPEND", one(call("APPEND", one(a), end)), end)},
		// a dotted comma is the tail
		{cons(a, mark("COMMA"), b, forms.Nil()), call("APPEND", one(quoted(a)), b)}, {list(a, b, mark("COMMA"), c), call("APPEND", one(quoted(a)), one(quoted(b)), c)}, {cons(a, mark("COMMA"), b), call("APPEND", one(quoted(a)), one(quoted(mark("COMMA"))), quoted(b))}, {list(a, mark("COMMA"), b, c), call("APPEND", one(quoted(a)), one(quoted(mark("COMMA"))), one(quoted(b)), one(quoted(c)), end)}, {list(a, mark("COMMA")), call("APPEND", one(quoted(a)), one(quoted(mark("COMMA"))), end)}, {list(mark("BACKQUOTE"), mark("COMMA"), a), call("APPEND", one(quoted(mark("BACKQUOTE"))), a)}, {list(splice(a), mark("COMMA"), b), call("APPEND", a, b)},
		// depths
		{back(a), call("APPEND", one(quoted(mark("BACKQUOTE"))), one(quoted(a)), end)}, {back(comma(a)), call("APPEND", one(quoted(mark("BACKQUOTE"))), one(call("APPEND", one(quoted(mark("COMMA"))), one(quoted(a)), end)), end)}, {back(comma(comma(a))), call("APPEND", one(quoted(mark("BACKQUOTE"))), one(call("APPEND", one(quoted(mark("COMMA"))), one(a), end)), end)}, {back(comma(splice(a))), call("APPEND", one(quoted(mark("BACKQUOTE"))), one(call("APPEND", one(quoted(mark("COMMA"))), a, end)), end)}, {back(splice(a)), call("APPEND", one(quoted(mark("BACKQUOTE"))), one(call("APPEND", one(quoted(mark("SPLICE"))), one(quoted(a)), end)), end)}, {list(mark("BACKQUOTE"), comma(a), b), call("APPEND", one(quoted(mark("BACKQUOTE"))), one(a), one(quoted(b)), end)}, {cons(mark("BACKQUOTE"), comma(a), b), call("APPEND", one(quoted(mark("BACKQUOTE"))), one(a), quoted(b))}, {back(cons(mark("COMMA"), mark("COMMA"), a, forms.Nil())), call("APPEND", one(quoted(mark("BACKQUOTE"))), one(call("APPEND", one(quoted(mark("COMMA"))), call("APPEND", one(quoted(mark("COMMA"))), one(quoted(a)), end))), end)}, {list(mark("BACKQUOTE")), call("APPEND", one(quoted(mark("BACKQUOTE"))), end)},
		{vector(), call("APPLY", vectors, end)}, {vector(a, comma(b)), call("APPLY", vectors, call("APPEND", one(quoted(a)), one(b), end))}, {list(vector(splice(a))), call("APPEND", one(call("APPLY", vectors, call("APPEND", a, end))), end)}, {back(vector(comma(comma(a)))), call("APPEND", one(quoted(mark("BACKQUOTE"))), one(call("APPLY", vectors, call("APPEND", one(call("APPEND", one(quoted(mark("COMMA"))), one(a), end)), end))), end)}, {cons(a, vector(comma(b))), call("APPEND", one(quoted(a)), call("APPLY", vectors, call("APPEND", one(b), end)))},
	} {
		if got, e := reader.Backquote(x.f); !forms.Equal(got, x.want) || e != api.OK {
			t.Errorf("%d: Backquote(%v) = %v, %v; want %v", i, short(x.f), short(got), e, x.want)
		}
	}
}

// P7.1: what stands behind no backquote, in the order of the errors.
func TestBackquoteErrors(t *testing.T) {
	a, b := sym("A"), sym("B")
	wide := vector(repeated(300, a)...)
	deep := a
	for range 50 {
		deep = vector(deep)
	}
	for i, x := range []struct {
		f    api.Form
		want api.Errno
	}{
		{api.Form{}, api.ErrForm}, {vector(repeated(2000, a)...), api.ErrSize}, {list(splice(a), str("\xff")), api.ErrForm}, {ref("1"), forms.ErrLabel}, {list(label("1", a), label("1", a)), api.ErrTwice}, {label("1", a), forms.ErrLabel}, {list(splice(a), vector(label("1", splice(a)))), forms.ErrLabel}, {cons(mark("COMMA"), label("1", vector(a))), forms.ErrLabel},
		{splice(a), reader.ErrComma}, {cons(a, mark("SPLICE"), b, forms.Nil()), reader.ErrComma}, {list(a, comma(b), cons(b, mark("SPLICE"), b, forms.Nil())), reader.ErrComma},
		{list(mark("COMMA")), api.ErrForm}, {list(mark("COMMA"), a, b), api.ErrForm}, {cons(mark("COMMA"), a), api.ErrForm}, {cons(mark("SPLICE"), a, b), api.ErrForm}, {list(mark("SPLICE")), api.ErrForm}, {list(list(mark("SPLICE"), a, b)), api.ErrForm}, {vector(list(mark("COMMA"))), api.ErrForm}, {back(comma(list(mark("SPLICE"), a, b))), api.ErrForm}, {list(mark("COMMA"), mark("COMMA"), a), api.ErrForm},
		// the first element with an error decides
		{list(list(mark("COMMA")), cons(a, mark("SPLICE"), b, forms.Nil())), api.ErrForm}, {list(cons(a, mark("SPLICE"), b, forms.Nil()), list(mark("COMMA"))), reader.ErrComma}, {cons(list(mark("COMMA")), mark("SPLICE"), b, forms.Nil()), api.ErrForm},
		{vector(wide, wide), api.ErrSize}, {deep, api.ErrSize}, {vector(wide, wide, splice(a), list(mark("COMMA"))), api.ErrForm},
	} {
		if got, e := reader.Backquote(x.f); got.Kind != 0 || len(got.Kids) > 0 || e != x.want {
			t.Errorf("%d: Backquote(%s) = %s, %v; want %v", i, short(x.f), short(got), e, x.want)
		}
	}
}

// P7.1: the greatest results. A symbol in a list becomes 7 nodes, (LIST (QUOTE A)), and a splice 1; there are 7 others: those of (APPEND .. (QUOTE NIL)).
func TestBackquoteSize(t *testing.T) {
	l := repeated(284, sym("A"))
	full := append(l[:284:284], repeated(5, splice(sym("B")))...)
	if got, e := reader.Backquote(list(full...)); len(got.Kids) != 292 || e != api.OK {
		t.Errorf("2000 nodes: %s, %v", short(got), e)
	}
	if got, e := reader.Backquote(list(append(full, splice(sym("B")))...)); got.Kind != 0 || e != api.ErrSize {
		t.Errorf("2001 nodes: %s, %v", short(got), e)
	}
	if got, e := reader.Backquote(list(repeated(285, sym("A"))...)); got.Kind != 0 || e != api.ErrSize {
		t.Errorf("285 elements: %s, %v", short(got), e)
	}
	// a list makes the result deeper by 2, and a vector by 3
	deep := sym("A")
	for range 48 {
		deep = list(deep)
	}
	if _, e := reader.Backquote(list(deep)); e != api.OK {
		t.Errorf("a depth of 100: %v", e)
	}
	if got, e := reader.Backquote(vector(deep)); got.Kind != 0 || e != api.ErrSize {
		t.Errorf("a depth of 101: %s, %v", short(got), e)
	}
}

// valued returns a form with what COMMA and SPLICE name replaced: a number n by the symbol Vn, and, where it is spliced, by the list of Sn and Tn.
func valued(f api.Form, depth int) api.Form {
	l, tail := forms.Spread(f)
	if f.Kind == api.FormVector {
		var kids []api.Form
		items, _ := forms.Items(valued(list(f.Kids...), depth))
		return vector(append(kids, items...)...)
	}
	if f.Kind != api.FormCons {
		return f
	}
	if len(l) == 2 && forms.IsNil(tail) && forms.Is(l[0], "READER", "COMMA") && depth == 1 {
		return single(l[1])
	}
	if len(l) == 2 && forms.IsNil(tail) {
		switch {
		case forms.Is(l[0], "READER", "BACKQUOTE"):
			depth++
		case forms.Is(l[0], "READER", "COMMA"), forms.Is(l[0], "READER", "SPLICE"):
			depth--
		}
	}
	var out []api.Form
	for i, x := range l {
		if depth == 1 && i == len(l)-2 && i > 0 && forms.IsNil(tail) && forms.Is(x, "READER", "COMMA") {
			return forms.Dotted(out, single(l[i+1]))
		}
		inner, end := forms.Spread(x)
		if depth == 1 && len(inner) == 2 && forms.IsNil(end) && forms.Is(inner[0], "READER", "SPLICE") {
			out = append(out, several(inner[1])...)
			continue
		}
		out = append(out, valued(x, depth))
	}
	if len(out) == 0 {
		return valued(tail, depth)
	}
	return forms.Dotted(out, valued(tail, depth))
}

func single(f api.Form) api.Form { return sym("V" + f.Text) }

func several(f api.Form) []api.Form { return []api.Form{sym("S" + f.Text), sym("T" + f.Text)} }

// evaluate returns the value of what Backquote makes; numbers have the values that valued tells. Of a number that is an argument of APPEND (but not the last one), the value is a list.
func evaluate(t *testing.T, f api.Form) api.Form {
	t.Helper()
	l, _ := forms.Items(f)
	switch {
	case f.Kind == api.FormInt:
		return single(f)
	case forms.Is(l[0], "COMMON-LISP", "QUOTE") && len(l) == 2:
		return l[1]
	case forms.Is(l[0], "COMMON-LISP", "LIST") && len(l) == 2:
		return list(evaluate(t, l[1]))
	case forms.Is(l[0], "COMMON-LISP", "APPLY") && len(l) == 3 && forms.Equal(l[1], call("FUNCTION", lisp("VECTOR"))):
		items, _ := forms.Items(evaluate(t, l[2]))
		return vector(items...)
	case forms.Is(l[0], "COMMON-LISP", "APPEND") && len(l) > 1:
		var out []api.Form
		for _, x := range l[1 : len(l)-1] {
			items, ok := forms.Items(x)
			if x.Kind == api.FormInt {
				items = several(x)
			} else if ok {
				items, ok = forms.Items(evaluate(t, x))
			}
			if x.Kind != api.FormInt && !ok {
				t.Fatalf("%v is no list", x)
			}
			out = append(out, items...)
		}
		return forms.Dotted(out, evaluate(t, l[len(l)-1]))
	}
	t.Fatalf("%v is evaluated", f)
	return api.Form{}
}

// template returns a random form behind a backquote.
func template(r *rand.Rand, depth, level int) api.Form {
	number := integer(strconv.Itoa(r.Intn(100)))
	switch n := r.Intn(12); {
	case depth == 0 || n < 3:
		return sym(string(rune('A' + r.Intn(3))))
	case n < 5 && level == 1:
		return comma(number)
	case n < 5:
		return comma(template(r, depth-1, level-1))
	case n == 5 && level > 1:
		return splice(template(r, depth-1, level-1))
	case n == 6:
		return back(template(r, depth-1, level+1))
	case n == 7:
		return vector(elements(r, depth, level)...)
	case n == 8:
		return forms.Dotted(elements(r, depth, level), sym("D"))
	case n == 9 && level == 1:
		return forms.Dotted(append(elements(r, depth, level), sym("A")), comma(number))
	}
	return list(elements(r, depth, level)...)
}

func elements(r *rand.Rand, depth, level int) []api.Form {
	l := []api.Form{sym("E")}
	for range r.Intn(4) {
		if level == 1 && r.Intn(4) == 0 {
			l = append(l, splice(integer(strconv.Itoa(r.Intn(100)))))
			continue
		}
		x := template(r, depth-1, level)
		l = append(l, x)
	}
	return l
}

// P7.6: the value of what Backquote makes is the form with the values of what COMMA and SPLICE name.
func TestBackquoteValues(t *testing.T) {
	r := rand.New(rand.NewSource(77))
	for range 5000 {
		f := template(r, 1+r.Intn(5), 1)
		got, e := reader.Backquote(f)
		if e == api.ErrSize {
			continue
		}
		if e != api.OK {
			t.Fatalf("Backquote(%v): %v", f, e)
		}
		if value, want := evaluate(t, got), valued(f, 1); !forms.Equal(value, want) {
			t.Fatalf("Backquote(%v) = %v, whose value is %v; want %v", f, got, value, want)
		}
	}
}

// only reports whether a form calls nothing but QUOTE, LIST and APPEND.
func only(f api.Form) bool {
	l, ok := forms.Items(f)
	if !ok || len(l) == 0 {
		return false
	}
	switch {
	case forms.Is(l[0], "COMMON-LISP", "QUOTE"):
		return len(l) == 2
	case forms.Is(l[0], "COMMON-LISP", "LIST"), forms.Is(l[0], "COMMON-LISP", "APPEND"):
		for _, x := range l[1:] {
			if !only(x) {
				return false
			}
		}
		return true
	}
	return false
}

// P7.6: without COMMA, SPLICE and vectors only three functions are called.
func TestBackquoteCalls(t *testing.T) {
	r := rand.New(rand.NewSource(78))
	for range 2000 {
		f := plain(template(r, 1+r.Intn(4), 1))
		got, e := reader.Backquote(f)
		if e == api.OK && !only(got) || e != api.OK && e != api.ErrSize {
			t.Fatalf("Backquote(%v) = %v, %v", f, got, e)
		}
		if e == api.OK && !forms.Equal(evaluate(t, got), f) {
			t.Fatalf("Backquote(%v) = %v, which has another value", f, got)
		}
	}
}

// plain returns a form without marks, vectors and numbers.
func plain(f api.Form) api.Form {
	switch {
	case f.Home == "READER", f.Kind == api.FormInt:
		return sym("X")
	case f.Kind == api.FormVector:
		return plain(list(f.Kids...))
	case f.Kind != api.FormCons:
		return f
	}
	l, tail := forms.Spread(f)
	for i := range l {
		l[i] = plain(l[i])
	}
	return forms.Dotted(l, plain(tail))
}
