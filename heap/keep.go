package heap

import (
	"slices"

	"commonform/api"
)

// gone is the new place of an object that is not kept.
const gone = -1

// layout has the objects of a heap that are kept, in a new order.
type layout struct {
	h      *Heap
	to     []int // the new places of objects, by the old ones
	words  []Word
	begins []bool
}

func (h *Heap) newLayout() *layout {
	n := len(h.words)
	return &layout{h: h, to: slices.Repeat([]int{gone}, n), words: make([]Word, 0, n), begins: make([]bool, 0, n)}
}

// lay puts some objects behind those that are laid; ErrTwice, if one of them is.
func (l *layout) lay(objects []Word) api.Errno {
	for _, w := range objects {
		from, to := w.place(), len(l.words)
		if l.to[from] != gone {
			return api.ErrTwice
		}
		l.to[from] = to
		behind := from + unpack(l.h.words[from]).size()
		l.words = append(l.words, l.h.words[from:behind]...)
		l.begins = append(l.begins, l.h.begins[from:behind]...)
	}
	return api.OK
}

// moved returns what a word is when the objects are laid anew.
func (l *layout) moved(w Word) Word {
	if !w.IsRef() {
		return w
	}
	if to := l.to[w.place()]; to != gone {
		return reference(to)
	}
	return Unbound
}

// Keep lays some objects anew as old ones, and some as young ones; all others are gone.
func (h *Heap) Keep(old, young []Word) api.Errno {
	if h.missing() {
		return api.ErrArg
	}
	for _, objects := range [...][]Word{old, young} {
		for _, w := range objects {
			if !h.isObject(w) {
				return ErrWord
			}
		}
	}
	l := h.newLayout()
	l.lay([]Word{Nil})
	if e := l.lay(old); e != api.OK {
		return e
	}
	oldWords := len(l.words)
	if e := l.lay(young); e != api.OK {
		return e
	}
	h.words, h.begins, h.old = l.words, l.begins, oldWords
	h.refer(l)
	h.moves++
	return api.OK
}

// refer makes all references in fields and roots those to the new places.
func (h *Heap) refer(l *layout) {
	for place, x := range h.objects() {
		fields := h.fields(place, x)
		for i, w := range fields {
			fields[i] = l.moved(w)
		}
	}
	for root, w := range h.roots {
		h.roots[root] = l.moved(w)
	}
}
