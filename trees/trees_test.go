package trees_test

import (
	"fmt"
	"testing"

	"commonform/api"
	"commonform/forms"
	"commonform/trees"
)

func TestLists(t *testing.T) {
	a, b, nothing := forms.Symbol("A", "X"), forms.Symbol("B", "Y"), forms.Nil()
	for _, c := range []struct {
		what      string
		got, want api.Form
	}{
		{"no elements", trees.List(), nothing}, {"two elements", trees.List(a, b), forms.List([]api.Form{a, b})}, {"a tail", trees.Dotted([]api.Form{a}, b), forms.Dotted([]api.Form{a}, b)}, {"a tail alone", trees.Dotted(nil, b), b},
		{"a call", trees.Call("F", a), forms.Call("F", []api.Form{a})}, {"a name", trees.Name("F"), forms.Symbol("COMMON-LISP", "F")},
	} {
		if !forms.Equal(c.got, c.want) {
			t.Errorf("%s: %v", c.what, c.got)
		}
	}
	for _, c := range []struct {
		f      api.Form
		n      int
		tail   api.Form
		proper bool
	}{{nothing, 0, nothing, true}, {a, 0, a, false}, {trees.List(a, b), 2, nothing, true}, {trees.Dotted([]api.Form{a}, b), 1, b, false}, {api.Form{Kind: api.FormCons}, 0, api.Form{Kind: api.FormCons}, false}} {
		l, tail := trees.Spread(c.f)
		items, proper := trees.Items(c.f)
		if len(l) != c.n || !forms.Equal(tail, c.tail) || proper != c.proper || proper && len(items) != c.n || !proper && items != nil {
			t.Errorf("%v: %v, %v, %v, %v", c.f, l, tail, items, proper)
		}
	}
	l := trees.List(a, b)
	first, _ := trees.Items(l)
	if first = append(first, a); !forms.IsNil(l.Kids[2]) {
		t.Errorf("append to the elements %v changed the list", first)
	}
}

func TestNames(t *testing.T) {
	for _, name := range []string{"&OPTIONAL", "&REST", "&BODY", "&KEY", "&ALLOW-OTHER-KEYS", "&AUX", "&WHOLE", "&ENVIRONMENT", "NIL", "T", "CAR"} {
		marker := name[0] == '&'
		f := trees.Name(name)
		if trees.Marker(f) != marker || trees.Variable(f) != (name == "CAR") {
			t.Errorf("%s: %v, %v", name, trees.Marker(f), trees.Variable(f))
		}
		if f.Home = "A"; trees.Marker(f) || !trees.Variable(f) {
			t.Errorf("%s of another package", name)
		}
	}
	if trees.Variable(forms.Symbol("KEYWORD", "X")) || !trees.Variable(forms.Symbol("", "X")) || trees.Variable(api.Form{Kind: api.FormString}) || trees.Variable(trees.List(trees.Name("X"))) {
		t.Error("variables")
	}
}

func TestCopies(t *testing.T) {
	f := trees.List(forms.Symbol("A", "X"), trees.List(forms.Symbol("A", "Y")))
	c := api.Core{Op: 1, N: 2, Vars: []int{3}, Syms: []api.Form{f}, Pars: []api.Param{{Kind: 4, Key: f}}, Data: f, Kids: []api.Core{{Op: 5, Vars: []int{6}}}}
	copies, own := trees.Copies([]api.Form{f}), trees.CopyCore(c)
	want := fmt.Sprint([]api.Form{f}, c)
	if got := fmt.Sprint(copies, own); got != want {
		t.Errorf("copies are %s; want %s", got, want)
	}
	f.Kids[1].Kids[0].Text = "Z"
	c.Vars[0], c.Kids[0].Op, c.Kids[0].Vars[0] = 9, 9, 9
	if got := fmt.Sprint(copies, own); got != want {
		t.Errorf("copies are %s behind a change; want %s", got, want)
	}
	label := api.Form{Kind: api.FormLabel, Text: "0", Kids: []api.Form{f}}
	if trees.Labelled(f) || !trees.Labelled(label) || !trees.Labelled(trees.List(f, label)) {
		t.Error("labels")
	}
}
