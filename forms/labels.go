package forms

import (
	"slices"

	"commonform/api"
)

// Normal returns a form with as few labels as possible, in order.
func Normal(f api.Form) (api.Form, api.Errno) {
	if e := Check(f); e != api.OK {
		return api.Form{}, e
	}
	return build(graphOf(f))
}

// Same reports whether two forms are the same object but for the numbers of labels.
func Same(a, b api.Form) (bool, api.Errno) {
	x, e := Normal(a)
	if e != api.OK {
		return false, e
	}
	y, e := Normal(b)
	if e != api.OK {
		return false, e
	}
	return Equal(x, y), api.OK
}

// Plain returns a form without labels: each reference is replaced.
func Plain(f api.Form) (api.Form, api.Errno) {
	if e := Check(f); e != api.OK {
		return api.Form{}, e
	}
	if circular(f, nil) {
		return api.Form{}, ErrCircle
	}
	p := &plainer{labels: map[string]label{}}
	for _, node := range walk(f) {
		if node.Kind == api.FormLabel {
			p.labels[node.Text] = label{kid: node.Kids[0]}
		}
	}
	plain := p.plain(f, 1)
	if p.large {
		return api.Form{}, api.ErrSize
	}
	return plain, api.OK
}

// circular reports whether a reference stands within the Kid of its label; around are the labels in which f stands. (There are no other circles: a reference has its label ahead.)
func circular(f api.Form, around []string) bool {
	if f.Kind == api.FormRef && slices.Contains(around, f.Text) {
		return true
	}
	if f.Kind == api.FormLabel {
		around = append(append([]string(nil), around...), f.Text)
	}
	for _, kid := range f.Kids {
		if circular(kid, around) {
			return true
		}
	}
	return false
}

// plainer makes a tree without labels. Once the tree is too large, it makes nothing more.
type plainer struct {
	labels map[string]label
	nodes  int
	large  bool
}

// object returns what a label or a reference stands for, and each other node itself.
func (p *plainer) object(f api.Form) api.Form {
	switch f.Kind {
	case api.FormLabel:
		return f.Kids[0]
	case api.FormRef:
		return p.labels[f.Text].kid
	}
	return f
}

// plain returns the tree of an object that stands at a depth.
func (p *plainer) plain(f api.Form, depth int) api.Form {
	f = p.object(f)
	p.nodes++
	if p.nodes > api.MaxForm || depth > api.MaxDepth {
		p.large = true
	}
	if p.large {
		return api.Form{}
	}
	kids := f.Kids
	f.Kids = nil
	for i := 0; i < len(kids) && !p.large; i++ {
		kid := p.object(kids[i])
		if f.Kind == api.FormCons && i == len(kids)-1 && kid.Kind == api.FormCons {
			// the list goes on with its tail
			kids, i = kid.Kids, -1
			continue
		}
		part := p.plain(kid, depth+1)
		f.Kids = append(f.Kids, part)
	}
	return f
}
