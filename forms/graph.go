package forms

import "commonform/api"

// Node is an object of a graph: its kind, its text and home as in a form, and the indices of its parts; a cons has two, its car and its cdr.
type Node struct {
	Kind       int
	Text, Home string
	Kids       []int
}

// Nodes returns the graph of a form.
func Nodes(f api.Form) ([]Node, api.Errno) {
	if e := Check(f); e != api.OK {
		return nil, e
	}
	g := graphOf(f)
	if len(g) > api.MaxForm {
		return nil, api.ErrSize
	}
	return g, api.OK
}

// graphOf returns the graph of a form that is right, whatever its size.
func graphOf(f api.Form) []Node {
	g := &grapher{labels: map[string]label{}, symbols: map[[2]string]int{}}
	g.add(f)
	return g.nodes
}

type grapher struct {
	nodes   []Node
	labels  map[string]label
	symbols map[[2]string]int // by Home and Text
}

// add adds an object with all that is met from it, and returns its index.
func (g *grapher) add(f api.Form) int {
	switch f.Kind {
	case api.FormLabel:
		g.labels[f.Text] = label{kid: f.Kids[0], node: len(g.nodes)}
		return g.add(f.Kids[0])
	case api.FormRef:
		l := g.labels[f.Text]
		if identity(l.kid.Kind) {
			return l.node
		}
		return g.add(l.kid)
	case api.FormSymbol:
		return g.symbol(f)
	case api.FormCons:
		return g.list(f.Kids)
	}
	at := g.open(f)
	for _, kid := range f.Kids {
		part := g.add(kid)
		g.nodes[at].Kids = append(g.nodes[at].Kids, part)
	}
	return at
}

// open adds a node that has no parts yet.
func (g *grapher) open(f api.Form) int {
	g.nodes = append(g.nodes, Node{Kind: f.Kind, Text: f.Text, Home: f.Home})
	return len(g.nodes) - 1
}

func (g *grapher) symbol(f api.Form) int {
	at, known := g.symbols[[2]string{f.Home, f.Text}]
	if !known {
		at = g.open(f)
		g.symbols[[2]string{f.Home, f.Text}] = at
	}
	return at
}

// list adds the conses of a FormCons.
func (g *grapher) list(kids []api.Form) int {
	first := len(g.nodes)
	last := len(kids) - 1
	for i, kid := range kids[:last] {
		at := g.open(api.Form{Kind: api.FormCons})
		car := g.add(kid)
		cdr := len(g.nodes) // the next cons, which is not there yet
		if i == last-1 {
			cdr = g.add(kids[last])
		}
		g.nodes[at].Kids = []int{car, cdr}
	}
	return first
}

// identity reports whether the objects of a kind are told apart, although they may be equal.
func identity(kind int) bool {
	switch kind {
	case api.FormString, api.FormBits, api.FormCons, api.FormVector, api.FormArray:
		return true
	}
	return false
}

// met returns the nodes that are met from one, in this order.
func met(g []Node, i int) []int {
	seen := make([]bool, len(g))
	var order []int
	left := [][]int{{i}}
	for len(left) > 0 {
		last := len(left) - 1
		if len(left[last]) == 0 {
			left = left[:last]
			continue
		}
		at := left[last][0]
		left[last] = left[last][1:]
		if !seen[at] {
			seen[at] = true
			order = append(order, at)
			left = append(left, g[at].Kids)
		}
	}
	return order
}

// CheckGraph returns the error of a graph.
func CheckGraph(g []Node) api.Errno {
	if len(g) == 0 || len(g) > api.MaxForm {
		return api.ErrForm
	}
	places := make([]int, len(g))
	for _, node := range g {
		if !rightTexts(node.Kind, node.Text, node.Home, len(node.Kids)) {
			return api.ErrForm
		}
		for _, kid := range node.Kids {
			if kid < 0 || kid >= len(g) {
				return api.ErrForm
			}
			places[kid]++
		}
	}
	if !rightObjects(g, places) {
		return api.ErrForm
	}
	order := met(g, 0)
	for i, at := range order {
		if i != at {
			return api.ErrForm
		}
	}
	if len(order) < len(g) {
		return api.ErrForm
	}
	return api.OK
}

// rightObjects reports whether the parts of complex numbers are right, equal symbols are one node, and numbers and characters stand in one place.
func rightObjects(g []Node, places []int) bool {
	symbols := map[[2]string]bool{}
	for i, node := range g {
		switch {
		case node.Kind == api.FormComplex:
			re, im := g[node.Kids[0]], g[node.Kids[1]]
			if !rightParts(re.Kind, im.Kind, im.Text) {
				return false
			}
		case node.Kind == api.FormSymbol:
			name := [2]string{node.Home, node.Text}
			if symbols[name] {
				return false
			}
			symbols[name] = true
		}
		if node.Kind != api.FormSymbol && !identity(node.Kind) && places[i] != min(i, 1) {
			return false
		}
	}
	return true
}

// checkIndex returns the error of a graph, or ErrArg for what is no index of it.
func checkIndex(g []Node, indices ...int) api.Errno {
	if e := CheckGraph(g); e != api.OK {
		return e
	}
	for _, i := range indices {
		if i < 0 || i >= len(g) {
			return api.ErrArg
		}
	}
	return api.OK
}

// Part returns the graph of a node and all that it has.
func Part(g []Node, i int) ([]Node, api.Errno) {
	if e := checkIndex(g, i); e != api.OK {
		return nil, e
	}
	return renumbered(g, i), api.OK
}

// renumbered returns the graph of what is met from a node.
func renumbered(g []Node, i int) []Node {
	order := met(g, i)
	place := make([]int, len(g))
	for at, old := range order {
		place[old] = at
	}
	var part []Node
	for _, old := range order {
		node := g[old]
		var kids []int
		for _, kid := range node.Kids {
			kids = append(kids, place[kid])
		}
		node.Kids = kids
		part = append(part, node)
	}
	return part
}

// shared tells for each node whether it is an object with identity that several places have.
func shared(g []Node) []bool {
	places := make([]int, len(g))
	places[0] = 1
	for _, node := range g {
		for _, kid := range node.Kids {
			places[kid]++
		}
	}
	is := make([]bool, len(g))
	for i, node := range g {
		is[i] = identity(node.Kind) && places[i] > 1
	}
	return is
}

// Shared returns the nodes with identity that several places have.
func Shared(g []Node) ([]int, api.Errno) {
	if e := CheckGraph(g); e != api.OK {
		return nil, e
	}
	var l []int
	for i, is := range shared(g) {
		if is {
			l = append(l, i)
		}
	}
	return l, api.OK
}

// Circular reports whether a node is met from its own parts.
func Circular(g []Node, i int) (bool, api.Errno) {
	if e := checkIndex(g, i); e != api.OK {
		return false, e
	}
	for _, at := range met(g, i) {
		for _, kid := range g[at].Kids {
			if kid == i {
				return true, api.OK
			}
		}
	}
	return false, api.OK
}

// Cars returns the elements of a list, and its last cdr.
func Cars(g []Node, i int) (elements []int, last int, e api.Errno) {
	if e := checkIndex(g, i); e != api.OK {
		return nil, 0, e
	}
	seen := make([]bool, len(g))
	for g[i].Kind == api.FormCons {
		if seen[i] {
			return nil, 0, api.ErrOrder
		}
		seen[i] = true
		elements = append(elements, g[i].Kids[0])
		i = g[i].Kids[1]
	}
	return elements, i, api.OK
}
