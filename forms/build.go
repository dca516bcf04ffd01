package forms

import (
	"strconv"

	"commonform/api"
)

// Build returns the normal form of a graph.
func Build(g []Node) (api.Form, api.Errno) {
	if e := CheckGraph(g); e != api.OK {
		return api.Form{}, e
	}
	return build(g)
}

// build returns the normal form of a graph; ErrSize if it would be too large. (Each label comes with its object and with a reference: in so few nodes there are less than 1000 of them.)
func build(g []Node) (api.Form, api.Errno) {
	b := &builder{graph: g, shared: shared(g), labels: map[int]string{}}
	f := b.object(0, 1)
	if b.large {
		return api.Form{}, api.ErrSize
	}
	return f, api.OK
}

// builder makes the form of a graph. Once the form is too large, it makes nothing more.
type builder struct {
	graph  []Node
	shared []bool
	labels map[int]string // of the objects that were met
	nodes  int
	large  bool
}

// count counts a node of the form at a depth.
func (b *builder) count(depth int) {
	b.nodes++
	if b.nodes > api.MaxForm || depth > api.MaxDepth {
		b.large = true
	}
}

// object returns the form of a node: a reference, if it was met, and a label, if it will be met again.
func (b *builder) object(i, depth int) api.Form {
	b.count(depth)
	if b.large {
		return api.Form{}
	}
	if text, known := b.labels[i]; known {
		return api.Form{Kind: api.FormRef, Text: text}
	}
	if !b.shared[i] {
		return b.body(i, depth)
	}
	text := strconv.Itoa(len(b.labels))
	b.labels[i] = text
	b.count(depth + 1)
	kid := b.body(i, depth+1)
	return api.Form{Kind: api.FormLabel, Text: text, Kids: []api.Form{kid}}
}

// body returns the form of a node, which was counted, without a label.
func (b *builder) body(i, depth int) api.Form {
	node := b.graph[i]
	f := api.Form{Kind: node.Kind, Text: node.Text, Home: node.Home}
	parts := node.Kids
	for len(parts) > 0 && !b.large {
		next := parts[0]
		parts = parts[1:]
		if node.Kind == api.FormCons && len(parts) == 0 && b.graph[next].Kind == api.FormCons && !b.shared[next] {
			// the list goes on with its cdr
			parts = b.graph[next].Kids
			continue
		}
		kid := b.object(next, depth+1)
		f.Kids = append(f.Kids, kid)
	}
	return f
}
