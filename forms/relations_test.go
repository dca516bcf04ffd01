package forms_test

import (
	"math/rand"
	"testing"

	"commonform/api"
	"commonform/forms"
)

// Levels of relations, each of which has the one ahead.
const (
	eql = iota
	alike
	similar
)

// agrees tells how two nodes may agree, as the chapter says it: by value, or by their parts.
func agrees(level int, x, y forms.Node) (byValue, byParts bool) {
	if x.Kind != y.Kind {
		return false, false
	}
	switch x.Kind {
	case api.FormInt, api.FormRatio, api.FormSingle, api.FormDouble, api.FormChar:
		return x.Text == y.Text, false
	case api.FormComplex:
		return false, true
	case api.FormString, api.FormBits:
		return level >= alike && x.Text == y.Text, false
	case api.FormCons:
		return false, level >= alike
	case api.FormVector:
		return false, level == similar && len(x.Kids) == len(y.Kids)
	case api.FormArray:
		return false, level == similar && x.Text == y.Text
	}
	return false, false
}

// relation calculates the greatest relation by taking pairs out until none has to go.
func relation(g []forms.Node, level int) map[[2]int]bool {
	in := map[[2]int]bool{}
	for i := range g {
		for k := range g {
			in[[2]int{i, k}] = true
		}
	}
	for changed := true; changed; {
		changed = false
		for i, x := range g {
			for k, y := range g {
				byValue, byParts := agrees(level, x, y)
				stays := i == k || byValue
				if !stays && byParts {
					stays = true
					for at, kid := range x.Kids {
						stays = stays && in[[2]int{kid, y.Kids[at]}]
					}
				}
				if in[[2]int{i, k}] && !stays {
					in[[2]int{i, k}] = false
					changed = true
				}
			}
		}
	}
	return in
}

var relations = []func(g []forms.Node, i, k int) (bool, api.Errno){forms.Eql, forms.Alike, forms.Similar}

// graphs returns graphs of random forms, and random graphs with many circles.
func graphs(t *testing.T) [][]forms.Node {
	t.Helper()
	var l [][]forms.Node
	for _, f := range random(t, 31, 150) {
		g, _ := forms.Nodes(f)
		l = append(l, g)
	}
	r := rand.New(rand.NewSource(32))
	for range 400 {
		var g []forms.Node
		n := 2 + r.Intn(9)
		for range n {
			x := forms.Node{Kind: api.FormCons, Kids: []int{r.Intn(n), r.Intn(n)}}
			switch r.Intn(6) {
			case 0:
				x = forms.Node{Kind: api.FormVector, Kids: []int{r.Intn(n), r.Intn(n)}}
			case 1:
				x = forms.Node{Kind: api.FormVector, Kids: []int{r.Intn(n)}}
			case 2:
				x = forms.Node{Kind: api.FormString, Text: "xy"[:r.Intn(2)]}
			}
			g = append(g, x)
		}
		l = append(l, ordered(g))
	}
	return l
}

// ordered returns the nodes that are met from the first one, in this order.
func ordered(g []forms.Node) []forms.Node {
	place := map[int]int{}
	var order []int
	var visit func(i int)
	visit = func(i int) {
		if _, met := place[i]; met {
			return
		}
		place[i] = len(order)
		order = append(order, i)
		for _, kid := range g[i].Kids {
			visit(kid)
		}
	}
	visit(0)
	var l []forms.Node
	for _, i := range order {
		x := g[i]
		var kids []int
		for _, kid := range x.Kids {
			kids = append(kids, place[kid])
		}
		x.Kids = kids
		l = append(l, x)
	}
	return l
}

// P1.1, P1.8: the three relations are the greatest ones, and each has the one ahead.
func TestRelations(t *testing.T) {
	for _, g := range graphs(t) {
		if len(g) > 40 {
			continue
		}
		var want [3]map[[2]int]bool
		for level := range want {
			want[level] = relation(g, level)
		}
		for pair := range want[0] {
			for level, f := range relations {
				is, e := f(g, pair[0], pair[1])
				if is != want[level][pair] || e != api.OK {
					t.Fatalf("relation %d of %v in %v = %v, %v", level, pair, g, is, e)
				}
			}
		}
		checkEquivalence(t, g)
	}
}

func checkEquivalence(t *testing.T, g []forms.Node) {
	t.Helper()
	for level, f := range relations {
		is := func(i, k int) bool {
			x, _ := f(g, i, k)
			return x
		}
		for i := range min(len(g), 9) {
			for k := range min(len(g), 9) {
				if !is(i, i) || is(i, k) != is(k, i) || level > 0 && !is(i, k) && holds(relations[level-1], g, i, k) {
					t.Fatalf("relation %d of %d and %d in %v", level, i, k, g)
				}
				for m := range min(len(g), 9) {
					if is(i, k) && is(k, m) && !is(i, m) {
						t.Fatalf("relation %d of %d, %d and %d in %v", level, i, k, m, g)
					}
				}
			}
		}
	}
}

func holds(f func(g []forms.Node, i, k int) (bool, api.Errno), g []forms.Node, i, k int) bool {
	is, _ := f(g, i, k)
	return is
}

// P1.1: the examples and single cases.
func TestRelationCases(t *testing.T) {
	complex := node(api.FormComplex, "", integer("1"), integer("2"))
	array := func(f api.Form) api.Form { return node(api.FormArray, "1 1", f) }
	for _, c := range []struct {
		x, y api.Form
		want [3]bool
	}{
		{integer("1"), integer("1"), [3]bool{true, true, true}}, {integer("1"), integer("2"), [3]bool{}}, {leaf(api.FormSingle, "00000000"), leaf(api.FormSingle, "80000000"), [3]bool{}}, {leaf(api.FormSingle, "3f800000"), integer("1"), [3]bool{}}, {complex, complex, [3]bool{true, true, true}}, {complex, node(api.FormComplex, "", integer("1"), integer("3")), [3]bool{}}, {leaf(api.FormChar, "a"), leaf(api.FormChar, "a"), [3]bool{true, true, true}}, {leaf(api.FormChar, "a"), leaf(api.FormChar, "A"), [3]bool{}}, {sym("A"), sym("B"), [3]bool{}},
		{str("x"), str("x"), [3]bool{false, true, true}}, {str("x"), str("X"), [3]bool{}}, {leaf(api.FormBits, "01"), leaf(api.FormBits, "01"), [3]bool{false, true, true}}, {leaf(api.FormBits, "01"), str("01"), [3]bool{}}, {list(str("x")), list(str("x")), [3]bool{false, true, true}}, {list(str("x")), list(str("y")), [3]bool{}}, {vector(str("x")), vector(str("x")), [3]bool{false, false, true}}, {vector(), vector(), [3]bool{false, false, true}}, {vector(str("x")), vector(), [3]bool{}}, {list(vector()), list(vector()), [3]bool{false, false, true}}, {array(str("x")), array(str("x")), [3]bool{false, false, true}}, {node(api.FormArray, "1 2", many(2, sym("A"))...), node(api.FormArray, "2 1", many(2, sym("A"))...), [3]bool{}}, {array(sym("A")), array(sym("B")), [3]bool{}},
		{label("1", cons(str("x"), ref("1"))), label("2", cons(str("x"), str("x"), ref("2"))), [3]bool{false, true, true}}, {label("1", vector(ref("1"))), label("2", vector(vector(ref("2")))), [3]bool{false, false, true}}, {label("1", cons(str("x"), ref("1"))), cons(str("x"), sym("A")), [3]bool{}},
	} {
		g, e := forms.Nodes(vector(c.x, c.y))
		if e != api.OK {
			t.Fatal(e)
		}
		for level, f := range relations {
			if is, e := f(g, g[0].Kids[0], g[0].Kids[1]); is != c.want[level] || e != api.OK {
				t.Errorf("relation %d of %v and %v = %v, %v", level, c.x, c.y, is, e)
			}
		}
	}
}

// P1.8: Coalesce.
func TestCoalesce(t *testing.T) {
	g, _ := forms.Nodes(cons(str("x"), str("x"), integer("1")))
	want, _ := forms.Nodes(cons(label("3", str("x")), ref("3"), integer("1")))
	if c, e := forms.Coalesce(g); !sameGraph(c, want) || e != api.OK {
		t.Errorf("Coalesce = %v, %v", c, e)
	}
	// numbers and characters stay in their places
	g, _ = forms.Nodes(vector(vector(integer("1")), vector(integer("1")), integer("1")))
	want, _ = forms.Nodes(vector(label("0", vector(integer("1"))), ref("0"), integer("1")))
	if c, e := forms.Coalesce(g); !sameGraph(c, want) || e != api.OK {
		t.Errorf("Coalesce = %v, %v", c, e)
	}
	for _, g := range graphs(t) {
		checkCoalesce(t, g)
	}
}

func checkCoalesce(t *testing.T, g []forms.Node) {
	t.Helper()
	c, e := forms.Coalesce(g)
	if e != api.OK || forms.CheckGraph(c) != api.OK {
		t.Fatalf("Coalesce(%v) = %v, %v", g, c, e)
	}
	again, _ := forms.Coalesce(c)
	if !sameGraph(again, c) {
		t.Errorf("Coalesce of %v = %v", c, again)
	}
	for i, x := range c {
		for k := range i {
			if holds(forms.Similar, c, i, k) && x.Kind != api.FormChar && !forms.Number(api.Form{Kind: x.Kind}) {
				t.Errorf("%d and %d are similar in %v", i, k, c)
			}
		}
	}
	// both graphs side by side: equal symbols are one node
	both := []forms.Node{{Kind: api.FormVector, Kids: []int{1, 1 + len(g)}}}
	for _, h := range [][]forms.Node{g, c} {
		from := len(both)
		for _, x := range h {
			var kids []int
			for _, kid := range x.Kids {
				kids = append(kids, kid+from)
			}
			x.Kids = kids
			both = append(both, x)
		}
	}
	both = ordered(oneSymbol(both))
	if !holds(forms.Similar, both, both[0].Kids[0], both[0].Kids[1]) {
		t.Errorf("%v is not similar to %v", c, g)
	}
}

// oneSymbol returns the graph in which equal symbols are one.
func oneSymbol(g []forms.Node) []forms.Node {
	first := map[string]int{}
	chosen := make([]int, len(g))
	for i, x := range g {
		chosen[i] = i
		if x.Kind != api.FormSymbol {
			continue
		}
		if before, known := first[x.Home+":"+x.Text]; known {
			chosen[i] = before
		} else {
			first[x.Home+":"+x.Text] = i
		}
	}
	var l []forms.Node
	for _, x := range g {
		var kids []int
		for _, kid := range x.Kids {
			kids = append(kids, chosen[kid])
		}
		x.Kids = kids
		l = append(l, x)
	}
	return l
}
