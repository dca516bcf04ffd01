package lib

import (
	"commonform/api"
	"commonform/heap"
	"commonform/symbols"
)

// Parts is what an image has of a world: the text of its packages, its output and counter, the numbers of the symbols that have objects, and these objects.
type Parts struct {
	Table, Output string
	Counter       int
	Numbers       []int
	Words         []heap.Word
}

// Parts returns what an image needs of a world.
func (w *World) Parts() Parts {
	if w.missing() {
		return Parts{}
	}
	p := Parts{Table: w.table.Text(), Output: w.Output(), Counter: w.counter}
	for n := range w.roots {
		if x, ok := w.object(n); ok {
			p.Numbers = append(p.Numbers, n)
			p.Words = append(p.Words, x)
		}
	}
	return p
}

// Restore returns a world with some parts and objects.
func Restore(limit, young int, p Parts, cells []heap.Cell, fields []heap.Field) (*World, []heap.Word, api.Errno) {
	t, e := symbols.Parse(p.Table)
	if e != api.OK {
		return nil, nil, api.ErrForm
	}
	if len(p.Output) > api.MaxOutput {
		return nil, nil, api.ErrLarge
	}
	if p.Counter < 0 || !rightNumbers(t, p.Numbers) || len(fields) < len(p.Numbers)+symbolFields {
		return nil, nil, api.ErrArg
	}
	h, e := heap.New(limit, young)
	if e != api.OK {
		return nil, nil, e
	}
	words, e := h.Lay(cells, fields)
	if e != api.OK {
		return nil, nil, e
	}
	w := empty(h, t)
	w.counter = p.Counter
	w.output = []byte(p.Output)
	own, others := words[:len(p.Numbers)], words[len(p.Numbers):]
	for i, x := range others[:symbolFields] {
		h.Set(heap.Nil, i, x)
	}
	for i, n := range p.Numbers {
		if !w.isObjectOf(own[i], n) {
			return nil, nil, ErrNoSymbol
		}
		w.hold(n, own[i])
	}
	return w, append([]heap.Word(nil), others[symbolFields:]...), api.OK
}

// rightNumbers reports whether numbers are ascending ones of symbols, from 0 on.
func rightNumbers(t *symbols.Table, l []int) bool {
	if len(l) == 0 || l[0] != 0 {
		return false
	}
	for i, n := range l {
		if _, _, e := t.Symbol(n); e != api.OK || i > 0 && n <= l[i-1] {
			return false
		}
	}
	return true
}

// isObjectOf reports whether a word is the object of a symbol.
func (w *World) isObjectOf(x heap.Word, n int) bool {
	if (n == 0) != (x == heap.Nil) || !w.isSymbol(x) || w.heap.Len(x) != symbolFields {
		return false
	}
	name, _, _ := w.table.Symbol(n)
	number, e := w.heap.Get(x, numberField)
	text := w.field(x, nameField)
	bytes, isText := w.heap.Bytes(text)
	return e == api.OK && number == fixnum(n) && w.heap.Kind(text) == heap.KindString && isText == api.OK && bytes == name
}
