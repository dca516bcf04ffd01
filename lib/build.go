package lib

import (
	"strconv"
	"strings"

	"commonform/api"
	"commonform/forms"
	"commonform/heap"
	"commonform/symbols"
)

// maxBytes is how many bytes an object may have.
const maxBytes = 131072

// Build makes the object of a form.
func (w *World) Build(f api.Form) (heap.Word, api.Errno) {
	if w.missing() {
		return 0, api.ErrArg
	}
	if e := forms.Check(f); e != api.OK {
		return 0, e
	}
	p := plan{w: w, symbols: map[[2]string]bool{}}
	if e := p.form(f); e != api.OK {
		return 0, e
	}
	if !w.room(p.words) {
		return 0, api.ErrWords
	}
	if w.full(p.fresh) {
		return 0, api.ErrFull
	}
	b := builder{w: w, fresh: map[string]heap.Word{}, labels: map[string]heap.Word{}}
	return b.form(f), api.OK
}

// plan counts what Build will make.
type plan struct {
	w            *World
	words, fresh int                // words, and symbols, that are needed
	symbols      map[[2]string]bool // which symbols were counted
}

// form counts what a form needs; it returns the first error of a symbol.
func (p *plan) form(f api.Form) api.Errno {
	switch f.Kind {
	case api.FormSymbol:
		return p.symbol(f)
	case api.FormInt:
		if _, ok := smallInteger(f.Text); !ok {
			p.raw(f.Text)
		}
	case api.FormRatio, api.FormSingle, api.FormDouble, api.FormString, api.FormBits:
		p.raw(f.Text)
	case api.FormCons:
		p.words += 3 * (len(f.Kids) - 1)
	case api.FormComplex, api.FormVector:
		p.words += 1 + len(f.Kids)
	case api.FormArray:
		p.words += 3 + 1 + len(strings.Fields(f.Text)) + 1 + len(f.Kids)
	}
	for _, kid := range f.Kids {
		if e := p.form(kid); e != api.OK {
			return e
		}
	}
	return api.OK
}

func (p *plan) raw(text string) {
	p.words += rawWords(len(text))
	if len(text) > maxBytes {
		p.words += api.MaxWords // no object has so many bytes
	}
}

func (p *plan) symbol(f api.Form) api.Errno {
	if len(f.Text) > api.MaxName {
		return api.ErrSize
	}
	n, status, home := 0, symbols.None, ""
	if f.Home != "" {
		var e api.Errno
		if n, status, e = p.w.table.Find(f.Home, f.Text); e != api.OK {
			return e
		}
		pack, _ := p.w.table.Package(f.Home) // a package may be named in several ways
		home = "in " + pack.Name
	}
	if status != symbols.None {
		if _, ok := p.w.object(n); ok {
			return api.OK
		}
		home = strconv.Itoa(n)
	}
	if id := [2]string{home, f.Text}; !p.symbols[id] {
		p.symbols[id] = true
		p.words += symbolWords(f.Text)
		if status == symbols.None {
			p.fresh++
		}
	}
	return api.OK
}

// builder makes the objects of a form, for which there is room.
type builder struct {
	w             *World
	label         string // that of the form that is made next
	fresh, labels map[string]heap.Word
}

// smallInteger returns the fixnum of a number in decimal digits, if there is one.
func smallInteger(text string) (heap.Word, bool) {
	n, err := strconv.ParseInt(text, 10, 64)
	if err != nil {
		return 0, false
	}
	x, e := heap.Fix(n)
	return x, e == api.OK
}

func (b *builder) form(f api.Form) heap.Word {
	label := b.label
	b.label = ""
	switch f.Kind {
	case api.FormSymbol:
		return b.symbol(f)
	case api.FormChar:
		for _, c := range f.Text {
			x, _ := heap.Char(c)
			return x
		}
	case api.FormInt:
		if x, ok := smallInteger(f.Text); ok {
			return x
		}
	case api.FormCons:
		return b.list(f.Kids, label)
	case api.FormComplex, api.FormVector:
		return b.vector(f.Kind, f.Kids, label)
	case api.FormArray:
		return b.array(f, label)
	case api.FormLabel:
		b.label = f.Text
		x := b.form(f.Kids[0])
		b.labels[f.Text] = x
		return x
	case api.FormRef:
		return b.labels[f.Text]
	}
	x, _ := b.w.heap.Raw(f.Kind, f.Text)
	return x
}

func (b *builder) symbol(f api.Form) heap.Word {
	if f.Home != "" {
		x, _ := b.w.Symbol(f.Home, f.Text)
		return x
	}
	if x, ok := b.fresh[f.Text]; ok {
		return x
	}
	n, _ := b.w.table.Fresh(f.Text)
	x := b.w.make(n)
	b.fresh[f.Text] = x
	return x
}

// object makes an object, to which its label refers ahead of its parts.
func (b *builder) object(kind, fields int, label string) heap.Word {
	x, _ := b.w.heap.New(kind, fields)
	if label != "" {
		b.labels[label] = x
	}
	return x
}

// list makes the conses of elements and a tail.
func (b *builder) list(kids []api.Form, label string) heap.Word {
	first := b.object(heap.KindCons, 2, label)
	last := first
	for i, kid := range kids[:len(kids)-1] {
		if i > 0 {
			next := b.object(heap.KindCons, 2, "")
			b.w.heap.Set(last, 1, next)
			last = next
		}
		b.w.heap.Set(last, 0, b.form(kid))
	}
	b.w.heap.Set(last, 1, b.form(kids[len(kids)-1]))
	return first
}

func (b *builder) vector(kind int, kids []api.Form, label string) heap.Word {
	x := b.object(kind, len(kids), label)
	for i, kid := range kids {
		b.w.heap.Set(x, i, b.form(kid))
	}
	return x
}

func (b *builder) array(f api.Form, label string) heap.Word {
	x := b.object(heap.KindArray, 2, label)
	words := strings.Fields(f.Text)
	dimensions := b.object(heap.KindVector, len(words), "")
	for i, word := range words {
		n, _ := smallInteger(word)
		b.w.heap.Set(dimensions, i, n)
	}
	b.w.heap.Set(x, 0, dimensions)
	b.w.heap.Set(x, 1, b.vector(heap.KindVector, f.Kids, ""))
	return x
}
