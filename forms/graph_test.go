package forms_test

import (
	"slices"
	"strings"
	"testing"

	"commonform/api"
	"commonform/forms"
)

func graph(l ...forms.Node) []forms.Node { return l }

func object(kind int, text string, kids ...int) forms.Node {
	return forms.Node{Kind: kind, Text: text, Kids: kids}
}

func symbolNode(name string) forms.Node {
	return forms.Node{Kind: api.FormSymbol, Text: name, Home: "COMMON-LISP-USER"}
}

func sameGraph(a, b []forms.Node) bool {
	return slices.EqualFunc(a, b, func(x, y forms.Node) bool {
		return x.Kind == y.Kind && x.Text == y.Text && x.Home == y.Home && slices.Equal(x.Kids, y.Kids)
	})
}

// P1.1: the graph of a form.
func TestNodes(t *testing.T) {
	pair := func(car, cdr int) forms.Node { return object(api.FormCons, "", car, cdr) }
	five := object(api.FormInt, "5")
	x := object(api.FormString, "x")
	complex := node(api.FormComplex, "", integer("5"), integer("5"))
	for _, c := range []struct {
		f    api.Form
		want []forms.Node
	}{
		{label("0", cons(sym("A"), ref("0"))), graph(pair(1, 0), symbolNode("A"))}, {cons(str("x"), str("x"), integer("5")), graph(pair(1, 2), x, pair(3, 4), x, five)}, {cons(label("3", str("x")), ref("3"), integer("5")), graph(pair(1, 2), x, pair(1, 3), five)},
		{vector(sym("A"), sym("A")), graph(object(api.FormVector, "", 1, 1), symbolNode("A"))}, {vector(label("0", integer("5")), ref("0")), graph(object(api.FormVector, "", 1, 2), five, five)}, {vector(label("0", leaf(api.FormChar, "a")), ref("0")), graph(object(api.FormVector, "", 1, 2), object(api.FormChar, "a"), object(api.FormChar, "a"))}, {vector(label("0", sym("A")), ref("0")), graph(object(api.FormVector, "", 1, 1), symbolNode("A"))},
		{vector(label("0", complex), ref("0")), graph(object(api.FormVector, "", 1, 4), object(api.FormComplex, "", 2, 3), five, five, object(api.FormComplex, "", 5, 6), five, five)}, {integer("5"), graph(five)}, {label("7", sym("A")), graph(symbolNode("A"))}, {node(api.FormArray, "2 1", str("x"), vector()), graph(object(api.FormArray, "2 1", 1, 2), x, object(api.FormVector, ""))},
		{cons(sym("A"), label("1", cons(sym("A"), ref("1")))), graph(pair(1, 2), symbolNode("A"), pair(1, 2))}, {vector(forms.Symbol("", "A"), sym("A")), graph(object(api.FormVector, "", 1, 2), object(api.FormSymbol, "A"), symbolNode("A"))}, {cons(vector(str("x")), label("1", list(integer("5"))), ref("1")), graph(pair(1, 3), object(api.FormVector, "", 2), x, pair(4, 4), pair(5, 6), five, forms.Node{Kind: api.FormSymbol, Text: "NIL", Home: "COMMON-LISP"})},
	} {
		g, e := forms.Nodes(c.f)
		if !sameGraph(g, c.want) || e != api.OK || forms.CheckGraph(g) != api.OK {
			t.Errorf("Nodes(%v) = %v, %v; want %v", c.f, g, e, c.want)
		}
	}
	// 999 conses, 999 numbers, and the symbol
	if g, e := forms.Nodes(list(many(999, integer("5"))...)); e != api.OK || len(g) != 1999 {
		t.Errorf("Nodes of a long list: %d, %v", len(g), e)
	}
	if g, e := forms.Nodes(list(many(1000, integer("5"))...)); e != api.ErrSize || len(g) > 0 {
		t.Errorf("Nodes of a longer list: %d, %v", len(g), e)
	}
	full := func(n int) api.Form {
		return vector(append(many(n, integer("5")), list(many(998, integer("5"))...))...)
	}
	if g, e := forms.Nodes(full(2)); e != api.OK || len(g) != api.MaxForm || forms.CheckGraph(g) != api.OK {
		t.Errorf("Nodes of the largest form: %d, %v", len(g), e)
	}
	if g, e := forms.Nodes(full(3)); e != api.ErrSize || len(g) > 0 {
		t.Errorf("Nodes of a larger form: %d, %v", len(g), e)
	}
	if g, e := forms.Nodes(cons(many(1001, sym("A"))...)); e != api.OK || len(g) != 1001 {
		t.Errorf("Nodes of a list of symbols: %d, %v", len(g), e)
	}
}

// P1.1: which graphs are right.
func TestCheckGraph(t *testing.T) {
	five, x, vec := object(api.FormInt, "5"), object(api.FormString, "x"), object(api.FormVector, "")
	single := object(api.FormSingle, "00000000")
	for _, g := range [][]forms.Node{
		graph(five), graph(symbolNode("A")), graph(object(api.FormCons, "", 0, 0)), graph(object(api.FormVector, "", 1, 1), x), graph(object(api.FormVector, "", 1, 1, 1), symbolNode("A")), graph(object(api.FormArray, "", 0)), graph(object(api.FormComplex, "", 1, 2), single, single), graph(object(api.FormCons, "", 1, 2), vec, object(api.FormCons, "", 0, 1)),
	} {
		if e := forms.CheckGraph(g); e != api.OK {
			t.Errorf("CheckGraph(%v) = %v", g, e)
		}
	}
	long := make([]forms.Node, api.MaxForm+1)
	for i := range long {
		long[i] = object(api.FormCons, "", min(i+1, api.MaxForm), 0)
	}
	for what, g := range map[string][]forms.Node{
		"nothing": nil, "too many": long, "no kind": graph(forms.Node{}), "a label": graph(object(api.FormLabel, "0", 1), vec), "a reference": graph(object(api.FormRef, "0")), "a cons with a part": graph(object(api.FormCons, "", 0)), "a cons with three": graph(object(api.FormCons, "", 0, 0, 0)), "a cons with a text": graph(object(api.FormCons, "x", 0, 0)), "a vector with a text": graph(object(api.FormVector, "x")), "a string with a part": graph(object(api.FormString, "", 0)), "a wrong number": graph(object(api.FormInt, "05")), "a wrong text": graph(object(api.FormString, "\xff")), "a home": graph(forms.Node{Kind: api.FormString, Home: "P"}), "a wrong array": graph(object(api.FormArray, "2 1", 0)), "an array of the rank 1": graph(object(api.FormArray, "1", 0)),
		"a part behind the end": graph(object(api.FormVector, "", 1)), "a part ahead of the beginning": graph(object(api.FormVector, "", -1)), "a complex number of 0": graph(object(api.FormComplex, "", 1, 2), five, object(api.FormInt, "0")), "a complex number of two kinds": graph(object(api.FormComplex, "", 1, 2), five, single), "a complex number of strings": graph(object(api.FormComplex, "", 1, 2), x, x), "a complex number of itself": graph(object(api.FormComplex, "", 0, 0)),
		"two equal symbols": graph(object(api.FormVector, "", 1, 2), symbolNode("A"), symbolNode("A")), "a number in two places": graph(object(api.FormCons, "", 1, 1), five), "a character in two places": graph(object(api.FormCons, "", 1, 1), object(api.FormChar, "a")), "a part in two complex numbers": graph(object(api.FormComplex, "", 1, 1), five), "a complex number in two places": graph(object(api.FormCons, "", 1, 1), object(api.FormComplex, "", 2, 3), five, five), "another order": graph(object(api.FormVector, "", 2, 1), x, x), "breadth ahead of depth": graph(object(api.FormVector, "", 1, 2), object(api.FormVector, "", 3), x, x), "what is not met": graph(vec, vec), "a number that is not met": graph(five, five),
	} {
		if e := forms.CheckGraph(g); e != api.ErrForm {
			t.Errorf("%s: %v; want ErrForm", what, e)
		}
		checkErrors(t, g, 0, api.ErrForm)
	}
	if e := forms.CheckGraph(long[:1]); e != api.ErrForm {
		t.Errorf("a part beyond the end: %v", e)
	}
	g := graph(object(api.FormVector, "", 1), vec)
	for _, i := range []int{-1, 2, 1 << 40} {
		checkErrors(t, g, i, api.ErrArg)
	}
}

// checkErrors checks that all functions with a graph and an index return an error, and zero values.
func checkErrors(t *testing.T, g []forms.Node, i int, want api.Errno) {
	t.Helper()
	part, a := forms.Part(g, i)
	circular, b := forms.Circular(g, i)
	cars, last, c := forms.Cars(g, i)
	codes := []api.Errno{a, b, c}
	for _, f := range []func(g []forms.Node, i, k int) (bool, api.Errno){forms.Eql, forms.Alike, forms.Similar} {
		x, d := f(g, i, 0)
		y, e := f(g, 0, i)
		codes = append(codes, d, e)
		if x || y {
			t.Error("a relation holds with an error")
		}
	}
	if want == api.ErrForm {
		f, d := forms.Build(g)
		l, e := forms.Shared(g)
		h, k := forms.Coalesce(g)
		codes = append(codes, d, e, k)
		if !empty(f) || len(l) > 0 || len(h) > 0 {
			t.Error("results with an error")
		}
	}
	for at, e := range codes {
		if e != want {
			t.Errorf("call %d: %v; want %v", at, e, want)
		}
	}
	if len(part) > 0 || circular || len(cars) > 0 || last != 0 {
		t.Error("results with an error")
	}
}

// P1.7: Build and Nodes undo each other; parts are graphs; what is Shared has labels.
func TestBuild(t *testing.T) {
	for _, f := range random(t, 21, 600) {
		g, e := forms.Nodes(f)
		b, h := forms.Build(g)
		n, _ := forms.Normal(f)
		equal(t, "Build of Nodes", b, n)
		again, _ := forms.Nodes(b)
		if !sameGraph(again, g) || e != api.OK || h != api.OK || forms.CheckGraph(g) != api.OK {
			t.Fatalf("Nodes of Build of %v: %v, %v", g, e, h)
		}
		if shared, e := forms.Shared(g); len(shared) != labels(b) || e != api.OK || !slices.IsSorted(shared) {
			t.Errorf("Shared(%v) = %v, %v; the form is %v", g, shared, e, b)
		}
		whole, _ := forms.Part(g, 0)
		if !sameGraph(whole, g) {
			t.Errorf("Part of 0 of %v = %v", g, whole)
		}
		for i := range g {
			checkPart(t, g, i)
		}
	}
}

func checkPart(t *testing.T, g []forms.Node, i int) {
	t.Helper()
	part, e := forms.Part(g, i)
	if e != api.OK || forms.CheckGraph(part) != api.OK || part[0].Kind != g[i].Kind || part[0].Text != g[i].Text {
		t.Errorf("Part of %d of %v = %v, %v", i, g, part, e)
	}
	back, _ := forms.Part(part, 0)
	if !sameGraph(back, part) {
		t.Errorf("Part of %v = %v", part, back)
	}
	circular, e := forms.Circular(g, i)
	want := false
	for _, kid := range g[i].Kids {
		want = want || meets(g, kid, i, map[int]bool{})
	}
	if circular != want || e != api.OK {
		t.Errorf("Circular(%v, %d) = %v, %v", g, i, circular, e)
	}
}

// meets reports whether a node is met from another one.
func meets(g []forms.Node, from, to int, seen map[int]bool) bool {
	if from == to {
		return true
	}
	if seen[from] {
		return false
	}
	seen[from] = true
	for _, kid := range g[from].Kids {
		if meets(g, kid, to, seen) {
			return true
		}
	}
	return false
}

// P1.1: graphs whose forms would be too large.
func TestBuildSize(t *testing.T) {
	chain := func(n int) []forms.Node {
		var g []forms.Node
		for i := range n - 1 {
			g = append(g, object(api.FormVector, "", i+1))
		}
		return append(g, object(api.FormVector, ""))
	}
	if f, e := forms.Build(chain(api.MaxDepth)); e != api.OK || f.Kind != api.FormVector {
		t.Errorf("the greatest depth: %v", e)
	}
	if f, e := forms.Build(chain(api.MaxDepth + 1)); e != api.ErrSize || !empty(f) {
		t.Errorf("a greater depth: %v", e)
	}
	// a label makes what is in it deeper
	for _, inner := range []api.Form{vector(label("0", str("x")), ref("0")), vector(label("0", vector(str("x"))), ref("0")), vector(label("0", list(str("x"))), ref("0"))} {
		_, depth := forms.Size(inner)
		f := nestedAround(api.MaxDepth-depth, inner)
		g, _ := forms.Nodes(f)
		b, e := forms.Build(g)
		if !forms.Equal(b, f) || e != api.OK {
			t.Errorf("a label at the greatest depth: %v", e)
		}
		g = append(graph(object(api.FormVector, "", 1)), g...)
		for i := range g[1:] {
			for k := range g[i+1].Kids {
				g[i+1].Kids[k]++
			}
		}
		if b, e := forms.Build(g); e != api.ErrSize || !empty(b) {
			t.Errorf("a label at a greater depth: %v", e)
		}
	}
	// a symbol in many places, and an object that is shared
	wide := func(n, kind int) []forms.Node {
		return graph(object(api.FormVector, "", make([]int, n)...), object(kind, "A"))
	}
	for _, c := range []struct {
		n, kind int
		want    api.Errno
	}{{api.MaxForm - 1, api.FormSymbol, api.OK}, {api.MaxForm, api.FormSymbol, api.ErrSize}, {100000, api.FormSymbol, api.ErrSize}, {api.MaxForm - 2, api.FormString, api.OK}, {api.MaxForm - 1, api.FormString, api.ErrSize}} {
		g := wide(c.n, c.kind)
		for i := range g[0].Kids {
			g[0].Kids[i] = 1
		}
		if f, e := forms.Build(g); e != c.want || e != api.OK && !empty(f) {
			t.Errorf("%d places: %v; want %v", c.n, e, c.want)
		}
	}
	labelled := func(n int) []forms.Node {
		// conses of a string and of what is behind, which is the same string, too
		g := graph(forms.Node{Kind: api.FormVector})
		for range n {
			g[0].Kids = append(g[0].Kids, len(g))
			g = append(g, object(api.FormCons, "", len(g), len(g)))
		}
		return g
	}
	// 1 node for the vector, and 4 for each cons with its label and its references: the number of nodes ends it first
	if f, e := forms.Build(labelled(499)); e != api.OK || labels(f) != 499 {
		t.Errorf("499 labels: %v", e)
	}
	if f, e := forms.Build(labelled(500)); e != api.ErrSize || !empty(f) {
		t.Errorf("500 labels: %v", e)
	}
}

// P1.1: lists in graphs.
func TestCars(t *testing.T) {
	g, _ := forms.Nodes(cons(str("x"), sym("A"), integer("1")))
	if l, last, e := forms.Cars(g, 0); !slices.Equal(l, []int{1, 3}) || last != 4 || e != api.OK {
		t.Errorf("Cars = %v, %d, %v", l, last, e)
	}
	if l, last, e := forms.Cars(g, 1); len(l) != 0 || last != 1 || e != api.OK {
		t.Errorf("Cars of a string = %v, %d, %v", l, last, e)
	}
	if l, last, e := forms.Cars(g, 2); !slices.Equal(l, []int{3}) || last != 4 || e != api.OK {
		t.Errorf("Cars of a tail = %v, %d, %v", l, last, e)
	}
	for _, f := range []api.Form{label("0", cons(sym("A"), ref("0"))), cons(sym("A"), label("0", cons(sym("B"), sym("C"), ref("0"))))} {
		g, _ := forms.Nodes(f)
		if l, last, e := forms.Cars(g, 0); len(l) != 0 || last != 0 || e != api.ErrOrder {
			t.Errorf("Cars of a circle = %v, %d, %v", l, last, e)
		}
	}
	// a circle through a car is none of the list
	g, _ = forms.Nodes(label("0", list(ref("0"))))
	if l, last, e := forms.Cars(g, 0); !slices.Equal(l, []int{0}) || last != 1 || e != api.OK {
		t.Errorf("Cars of a list in itself = %v, %d, %v", l, last, e)
	}
}

// P1.1: what is shared, and what is circular.
func TestShared(t *testing.T) {
	for _, c := range []struct {
		f    api.Form
		want []int
	}{
		{vector(str("x"), str("x")), nil}, {vector(label("0", str("x")), ref("0")), []int{1}}, {vector(sym("A"), sym("A")), nil}, {label("0", vector(ref("0"))), []int{0}}, {label("0", vector(label("1", vector(ref("0"))), ref("1"))), []int{0, 1}}, {cons(sym("A"), label("0", cons(sym("A"), ref("0")))), []int{2}}, {integer("1"), nil},
	} {
		g, _ := forms.Nodes(c.f)
		if l, e := forms.Shared(g); !slices.Equal(l, c.want) || e != api.OK {
			t.Errorf("Shared of %v = %v, %v", c.f, l, e)
		}
	}
	g, _ := forms.Nodes(vector(label("0", vector(ref("0"), str("x")))))
	for i, want := range []bool{false, true, false} {
		if is, e := forms.Circular(g, i); is != want || e != api.OK {
			t.Errorf("Circular of %d = %v, %v", i, is, e)
		}
	}
}

// R4: graphs that are returned share no memory.
func TestGraphMemory(t *testing.T) {
	g, _ := forms.Nodes(vector(label("0", vector(str("x"))), ref("0"), str("x")))
	kept, _ := forms.Nodes(vector(label("0", vector(str("x"))), ref("0"), str("x")))
	part, _ := forms.Part(g, 0)
	merged, _ := forms.Coalesce(g)
	for _, h := range [][]forms.Node{part, merged} {
		for i := range h {
			for k := range h[i].Kids {
				h[i].Kids[k] = 77
			}
		}
	}
	if !sameGraph(g, kept) {
		t.Errorf("the graph was changed: %v", g)
	}
}

// P1.1: long texts and lists do not matter to the relations.
func TestLongChains(t *testing.T) {
	// two rings of which the lengths have no common divisor
	ring := func(n int) api.Form {
		kids := many(n, sym("A"))
		return label(number(n%1000), cons(append(kids, ref(number(n%1000)))...))
	}
	g, e := forms.Nodes(vector(ring(501), ring(502)))
	if e != api.OK {
		t.Fatal(e)
	}
	second := g[0].Kids[1]
	for _, f := range []func(g []forms.Node, i, k int) (bool, api.Errno){forms.Alike, forms.Similar} {
		if is, e := f(g, 1, second); !is || e != api.OK {
			t.Errorf("two rings: %v, %v", is, e)
		}
	}
	c, e := forms.Coalesce(g)
	if want := graph(object(api.FormVector, "", 1, 1), object(api.FormCons, "", 2, 1), symbolNode("A")); !sameGraph(c, want) || e != api.OK {
		t.Errorf("Coalesce of two rings = %d nodes, %v", len(c), e)
	}
	text := strings.Repeat("x", 100000)
	g, _ = forms.Nodes(vector(str(text), str(text)))
	if is, _ := forms.Alike(g, 1, 2); !is {
		t.Error("two long strings are not alike")
	}
}
