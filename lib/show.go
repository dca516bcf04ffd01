package lib

import (
	"strconv"
	"strings"

	"commonform/api"
	"commonform/forms"
	"commonform/heap"
)

// Show returns the form of an object.
func (w *World) Show(x heap.Word) (f api.Form, e api.Errno) {
	if w.missing() {
		return api.Form{}, api.ErrArg
	}
	if !w.valid(x) {
		return api.Form{}, heap.ErrWord
	}
	defer func() {
		if recover() != nil {
			f, e = api.Form{}, api.ErrSize
		}
	}()
	s := shower{w: w, met: map[heap.Word]int{}, labels: map[heap.Word]string{}}
	s.meet(x)
	f = s.form(x, 1)
	if forms.Check(f) != api.OK {
		return api.Form{}, api.ErrSize
	}
	return f, api.OK
}

// shower makes the form of an object; it panics where this would be too large.
type shower struct {
	w      *World
	met    map[heap.Word]int    // how often objects that can have labels were met
	labels map[heap.Word]string // of those whose form was begun
	nodes  int
}

// canHaveLabel reports whether objects of a kind are shown as themselves, and are neither numbers nor symbols.
func canHaveLabel(kind int) bool {
	return kind == heap.KindString || kind == heap.KindBits || kind == heap.KindCons || kind == heap.KindVector || kind == heap.KindArray
}

// meet counts how often objects are met from one.
func (s *shower) meet(x heap.Word) {
	for canHaveLabel(s.w.heap.Kind(x)) {
		s.met[x]++
		if s.met[x] > 1 {
			return
		}
		// Each object is at least one node.
		if len(s.met) > api.MaxForm {
			panic(api.ErrSize)
		}
		switch s.w.heap.Kind(x) {
		case heap.KindCons:
			s.meet(s.w.field(x, 0))
			x = s.w.field(x, 1)
			continue
		case heap.KindVector:
			s.meetAll(s.w.fields(x))
		case heap.KindArray:
			_, elements := s.parts(x)
			s.meetAll(elements)
		}
		return
	}
}

func (s *shower) meetAll(l []heap.Word) {
	if len(l) > api.MaxForm {
		panic(api.ErrSize)
	}
	for _, x := range l {
		s.meet(x)
	}
}

// parts returns the dimensions and the elements of an object of the kind KindArray.
func (s *shower) parts(x heap.Word) (dimensions, elements []heap.Word) {
	dimensions, elements, ok := s.w.arrayParts(x)
	if !ok {
		panic(api.ErrSize)
	}
	return dimensions, elements
}

// node counts a node in a depth.
func (s *shower) node(depth int) {
	s.nodes++
	if s.nodes > api.MaxForm || depth > api.MaxDepth {
		panic(api.ErrSize)
	}
}

// form returns the form of an object that stands in a depth.
func (s *shower) form(x heap.Word, depth int) api.Form {
	s.node(depth)
	if s.met[x] < 2 {
		return s.object(x, depth)
	}
	if label, ok := s.labels[x]; ok {
		return api.Form{Kind: api.FormRef, Text: label}
	}
	label := strconv.Itoa(len(s.labels))
	s.labels[x] = label
	s.node(depth + 1)
	return api.Form{Kind: api.FormLabel, Text: label, Kids: []api.Form{s.object(x, depth+1)}}
}

// object returns the form of an object without a label.
func (s *shower) object(x heap.Word, depth int) api.Form {
	kind := s.w.heap.Kind(x)
	if _, e := s.w.heap.Bytes(x); canHaveLabel(kind) && (e == api.OK) != (kind == heap.KindString || kind == heap.KindBits) {
		panic(api.ErrSize) // bytes where parts belong, or the other way round
	}
	switch kind {
	case heap.KindSymbol:
		home, name, e := s.w.Name(x)
		if e != api.OK {
			panic(e)
		}
		return forms.Symbol(home, name)
	case heap.KindString, heap.KindBits:
		return api.Form{Kind: kind, Text: s.w.text(x)}
	case heap.KindCons:
		return s.list(x, depth)
	case heap.KindVector:
		return api.Form{Kind: kind, Kids: s.forms(s.w.fields(x), depth+1)}
	case heap.KindArray:
		dimensions, elements := s.parts(x)
		var texts []string
		for _, d := range dimensions {
			n, _ := d.Fixnum()
			texts = append(texts, strconv.FormatInt(n, 10))
		}
		return api.Form{Kind: kind, Text: strings.Join(texts, " "), Kids: s.forms(elements, depth+1)}
	}
	if f, ok := s.w.numberForm(x); ok {
		for range f.Kids {
			s.node(depth + 1)
		}
		return f
	}
	if c, ok := x.Character(); ok {
		return api.Form{Kind: api.FormChar, Text: string(c)}
	}
	return forms.Symbol("%", otherName(s.w.heap.Kind(x), x))
}

func (s *shower) forms(l []heap.Word, depth int) []api.Form {
	var kids []api.Form
	for _, x := range l {
		kid := s.form(x, depth)
		kids = append(kids, kid)
	}
	return kids
}

// list returns the form of conses, up to one that has a label of its own.
func (s *shower) list(x heap.Word, depth int) api.Form {
	f := api.Form{Kind: api.FormCons}
	for {
		if s.w.heap.Len(x) != 2 {
			panic(api.ErrSize)
		}
		kid := s.form(s.w.field(x, 0), depth+1)
		f.Kids = append(f.Kids, kid)
		x = s.w.field(x, 1)
		if s.w.heap.Kind(x) != heap.KindCons || s.met[x] > 1 {
			break
		}
	}
	tail := s.form(x, depth+1)
	f.Kids = append(f.Kids, tail)
	return f
}

// otherName returns the name of what is shown as a symbol of %.
func otherName(kind int, x heap.Word) string {
	switch {
	case x == heap.Unbound:
		return "UNBOUND"
	case kind >= heap.KindTable && kind <= heap.KindEphemeron:
		names := [...]string{"TABLE", "ENTRY", "CLOSURE", "CLOSURE", "BUILTIN", "CLASS", "INSTANCE", "GENERIC", "METHOD", "WEAK", "PACKAGE", "BOX", "EPHEMERON"}
		return names[kind-heap.KindTable]
	}
	return "OBJECT"
}

// formOf returns the form of an object, or what stands for it if it has none.
func (w *World) formOf(x heap.Word) api.Form {
	f, e := w.Show(x)
	if e != api.OK {
		return formless()
	}
	return f
}

// formless stands for an object that has no form.
func formless() api.Form { return forms.Symbol("%", "OBJECT") }
