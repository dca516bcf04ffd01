package forms

import "commonform/api"

// agreement tells how two different nodes may agree.
type agreement int

const (
	never   agreement = iota
	byValue           // as they are
	byParts           // if all their parts do, in order
)

// relation tells how two different nodes agree. What it means is the greatest relation of nodes that agree so.
type relation func(x, y Node) agreement

func eqlNodes(x, y Node) agreement {
	switch {
	case x.Kind != y.Kind:
		return never
	case x.Kind == api.FormComplex:
		return byParts
	case x.Text == y.Text && (x.Kind >= api.FormInt && x.Kind < api.FormComplex || x.Kind == api.FormChar):
		return byValue
	}
	return never
}

func alikeNodes(x, y Node) agreement {
	switch {
	case x.Kind != y.Kind:
		return never
	case x.Kind == api.FormCons:
		return byParts
	case (x.Kind == api.FormString || x.Kind == api.FormBits) && x.Text == y.Text:
		return byValue
	}
	return eqlNodes(x, y)
}

func similarNodes(x, y Node) agreement {
	switch {
	case x.Kind != y.Kind:
		return never
	case x.Kind == api.FormVector && len(x.Kids) == len(y.Kids), x.Kind == api.FormArray && x.Text == y.Text:
		return byParts
	}
	return alikeNodes(x, y)
}

// related reports whether two nodes are in the relation. What agrees by parts is marked, and taken as agreeing from then on: only a pair that never agrees refutes it.
func related(g []Node, i, k int, agree relation) bool {
	marks := map[[2]int]bool{}
	left := [][2]int{{i, k}}
	for len(left) > 0 {
		pair := left[len(left)-1]
		left = left[:len(left)-1]
		if pair[0] == pair[1] || marks[pair] {
			continue
		}
		x, y := g[pair[0]], g[pair[1]]
		switch agree(x, y) {
		case never:
			return false
		case byParts:
			marks[pair] = true
			for at, kid := range x.Kids {
				left = append(left, [2]int{kid, y.Kids[at]})
			}
		}
	}
	return true
}

func checkRelated(g []Node, i, k int, agree relation) (bool, api.Errno) {
	if e := checkIndex(g, i, k); e != api.OK {
		return false, e
	}
	return related(g, i, k, agree), api.OK
}

// Eql reports whether two nodes are eql.
func Eql(g []Node, i, k int) (bool, api.Errno) { return checkRelated(g, i, k, eqlNodes) }

// Alike reports whether two nodes are equal in Lisp's sense.
func Alike(g []Node, i, k int) (bool, api.Errno) { return checkRelated(g, i, k, alikeNodes) }

// Similar reports whether two nodes are similar, whatever they share.
func Similar(g []Node, i, k int) (bool, api.Errno) { return checkRelated(g, i, k, similarNodes) }

// look is what of a node must be equal in similar ones.
type look struct {
	kind, parts int
	text, home  string
}

// classes returns the number of each node's class: nodes are similar if they are in one class. Classes that look alike are divided by those of their parts, until none is divided any more.
func classes(g []Node) []int {
	looks := map[look]int{}
	class := make([]int, len(g))
	for i, node := range g {
		class[i] = numbered(looks, look{node.Kind, len(node.Kids), node.Text, node.Home})
	}
	for count := len(looks); ; {
		steps := map[[3]int]int{} // a place, what stands ahead of it, and the class of the part there
		next := make([]int, len(g))
		found := map[int]bool{}
		for i, node := range g {
			next[i] = class[i]
			for at, kid := range node.Kids {
				next[i] = len(g) + numbered(steps, [3]int{at, next[i], class[kid]})
			}
			found[next[i]] = true
		}
		if len(found) == count {
			return class
		}
		class, count = next, len(found)
	}
}

// numbered returns the number of a key, from 0 on in the order in which keys are met.
func numbered[K comparable](numbers map[K]int, key K) int {
	n, known := numbers[key]
	if !known {
		n = len(numbers)
		numbers[key] = n
	}
	return n
}

// Coalesce returns the graph in which similar nodes are one.
func Coalesce(g []Node) ([]Node, api.Errno) {
	if e := CheckGraph(g); e != api.OK {
		return nil, e
	}
	first := map[int]int{} // the first node of each class
	chosen := make([]int, len(g))
	for i, class := range classes(g) {
		chosen[i] = i
		if before, known := first[class]; known && identity(g[i].Kind) {
			chosen[i] = before
		} else if !known {
			first[class] = i
		}
	}
	merged := make([]Node, len(g))
	for i, node := range g {
		var kids []int
		for _, kid := range node.Kids {
			kids = append(kids, chosen[kid])
		}
		node.Kids = kids
		merged[i] = node
	}
	return renumbered(merged, 0), api.OK
}
