package heap

import (
	"slices"

	"commonform/api"
)

const maxCells = 20000

// Objects of a Field that are no indices of cells.
const (
	noObject    = -1 // the field is an immediate word
	firstObject = -2
)

// Cell is an object of a graph without places: its kind, and its bytes, or its fields.
type Cell struct {
	Kind   int
	Raw    bool
	Bytes  string
	Fields []Field
}

// Field is an immediate word, or the index of a cell (-1: none; -2: the first object).
type Field struct {
	Word   Word
	Object int
}

// Cells returns the graph of some words.
func (h *Heap) Cells(words []Word) ([]Cell, []Field, api.Errno) {
	if h.missing() {
		return nil, nil, api.ErrArg
	}
	for _, w := range words {
		if !h.isWord(w) {
			return nil, nil, ErrWord
		}
	}
	met, index := h.graph(words)
	var cells []Cell
	for _, w := range met {
		place, x := w.place(), h.header(w)
		c := Cell{Kind: x.kind, Raw: x.raw, Fields: fieldsOf(h.fields(place, x), index)}
		if x.raw {
			c.Bytes = h.bytes(place, x)
		}
		cells = append(cells, c)
	}
	return cells, fieldsOf(words, index), api.OK
}

// graph returns the objects of the graph of some words in the order in which they are met, and their indices there. The first object is met, but its fields are not.
func (h *Heap) graph(words []Word) ([]Word, map[Word]int) {
	var met []Word
	index := map[Word]int{Nil: firstObject}
	// the last word is looked at first, and what its object has goes on top of it: so all of it comes ahead of the next word
	ahead := reversed(words)
	for len(ahead) > 0 {
		w := ahead[len(ahead)-1]
		ahead = ahead[:len(ahead)-1]
		if _, known := index[w]; known || !w.IsRef() {
			continue
		}
		index[w] = len(met)
		met = append(met, w)
		ahead = append(ahead, reversed(h.fields(w.place(), h.header(w)))...)
	}
	return met, index
}

func reversed(words []Word) []Word {
	words = slices.Clone(words)
	slices.Reverse(words)
	return words
}

func fieldsOf(words []Word, index map[Word]int) []Field {
	var fields []Field
	for _, w := range words {
		if w.IsRef() {
			fields = append(fields, Field{Object: index[w]})
		} else {
			fields = append(fields, Field{Word: w, Object: noObject})
		}
	}
	return fields
}

// Lay makes the objects of a graph.
func (h *Heap) Lay(cells []Cell, words []Field) ([]Word, api.Errno) {
	if h.missing() || len(cells) > maxCells {
		return nil, api.ErrArg
	}
	room := h.limit - len(h.words)
	for _, c := range cells {
		if e := c.wrong(len(cells)); e != api.OK {
			return nil, e
		}
		room -= c.header().size()
	}
	if !rightFields(words, len(cells)) {
		return nil, ErrWord
	}
	if room < 0 {
		return nil, api.ErrWords
	}
	var objects []Word
	for _, c := range cells {
		objects = append(objects, reference(h.add(c.header())))
	}
	for i, c := range cells {
		place := objects[i].place()
		h.write(place, c.Bytes)
		copy(h.words[place+1:], wordsOf(c.Fields, objects))
	}
	return wordsOf(words, objects), api.OK
}

func (c Cell) header() header {
	if c.Raw {
		return header{kind: c.Kind, raw: true, count: len(c.Bytes)}
	}
	return header{kind: c.Kind, count: len(c.Fields)}
}

// wrong returns the error of one of so many cells.
func (c Cell) wrong(cells int) api.Errno {
	if e := c.header().wrong(); e != api.OK {
		return e
	}
	if c.Raw && len(c.Fields) > 0 || !c.Raw && c.Bytes != "" {
		return ErrRaw
	}
	if !rightFields(c.Fields, cells) {
		return ErrWord
	}
	return api.OK
}

// rightFields reports whether all fields are right in a graph of so many cells.
func rightFields(fields []Field, cells int) bool {
	for _, f := range fields {
		if f.Object == noObject && !f.Word.immediate() {
			return false
		}
		if f.Object != noObject && (f.Word != 0 || f.Object < firstObject || f.Object >= cells) {
			return false
		}
	}
	return true
}

// wordsOf returns the words of fields in a graph that has these objects.
func wordsOf(fields []Field, objects []Word) []Word {
	var words []Word
	for _, f := range fields {
		switch f.Object {
		case noObject:
			words = append(words, f.Word)
		case firstObject:
			words = append(words, Nil)
		default:
			words = append(words, objects[f.Object])
		}
	}
	return words
}
