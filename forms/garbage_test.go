package forms_test

import (
	"math/rand"
	"testing"

	"commonform/api"
	"commonform/forms"
)

// garbage returns trees of all kinds, which are right only now and then.
func garbage(r *rand.Rand, depth int) api.Form {
	texts := []string{"", "", "", "0", "1", "2 1", "0 0", "1/2", "a", "\xff", "00000000", "2 2 x"}
	f := api.Form{Kind: r.Intn(16), Text: texts[r.Intn(len(texts))]}
	switch r.Intn(8) {
	case 0:
		f.Home = "P"
	case 1, 2, 3:
		f.Kind = api.FormCons + r.Intn(5)
	}
	if f.Kind >= api.FormCons && depth > 0 || r.Intn(9) == 0 {
		for range r.Intn(4) {
			kid := garbage(r, depth-1)
			f.Kids = append(f.Kids, kid)
		}
	}
	return f
}

// P1: no function panics, whatever the tree.
func TestGarbage(t *testing.T) {
	r := rand.New(rand.NewSource(41))
	for range 30000 {
		x, y := garbage(r, 4), garbage(r, 3)
		want := forms.Check(x)
		_, a := forms.Normal(x)
		_, b := forms.Nodes(x)
		_, c := forms.Plain(x)
		if a != want || b != want || c != want && c != forms.ErrCircle {
			t.Errorf("%v: %v, %v, %v, %v", x, want, a, b, c)
		}
		forms.Size(x)
		forms.Same(x, y)
		forms.Equal(x, y)
		forms.IsNil(x)
		forms.Number(x)
		forms.Dimensions(x)
		forms.Items(x)
		forms.Spread(x)
		forms.List(x.Kids)
		forms.Call(x.Text, x.Kids)
		forms.Dotted(x.Kids, y)
	}
}

// P1: no function panics, whatever the graph.
func TestGarbageGraphs(t *testing.T) {
	r := rand.New(rand.NewSource(42))
	for range 30000 {
		var g []forms.Node
		n := r.Intn(6)
		for range n {
			f := garbage(r, 0)
			x := forms.Node{Kind: f.Kind, Text: f.Text, Home: f.Home}
			for range r.Intn(4) {
				x.Kids = append(x.Kids, r.Intn(n+2)-1)
			}
			if r.Intn(3) > 0 {
				x = forms.Node{Kind: api.FormCons, Kids: []int{r.Intn(n), r.Intn(n)}}
			}
			g = append(g, x)
		}
		want := forms.CheckGraph(g)
		f, a := forms.Build(g)
		_, b := forms.Coalesce(g)
		_, c := forms.Shared(g)
		if a != want || b != want || c != want {
			t.Errorf("%v: %v, %v, %v, %v", g, want, a, b, c)
		}
		if want == api.OK {
			back, _ := forms.Nodes(f)
			if !sameGraph(back, g) {
				t.Errorf("%v is built as %v", g, f)
			}
		}
		for i := -1; i <= n; i++ {
			forms.Part(g, i)
			forms.Circular(g, i)
			forms.Cars(g, i)
			for _, f := range relations {
				f(g, i, r.Intn(n+2)-1)
			}
		}
	}
}
