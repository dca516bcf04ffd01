package table

import (
	"strconv"
	"unicode/utf8"

	"commonform/api"
	"commonform/heap"
)

// form returns the form of a number, and whether the word is made like one. (Whether the form is a number, layer 5 tells.)
func form(h *heap.Heap, w heap.Word) (api.Form, bool) {
	if h.Kind(w) != heap.KindComplex {
		return realForm(h, w)
	}
	if hasBytes(h, w) || h.Len(w) != 2 {
		return api.Form{}, false
	}
	f := api.Form{Kind: api.FormComplex}
	for _, part := range fields(h, w) {
		kid, ok := realForm(h, part)
		if !ok {
			return api.Form{}, false
		}
		f.Kids = append(f.Kids, kid)
	}
	return f, true
}

// realForm returns the form of what is made like a real number.
func realForm(h *heap.Heap, w heap.Word) (api.Form, bool) {
	if n, ok := w.Fixnum(); ok {
		return api.Form{Kind: api.FormInt, Text: strconv.FormatInt(n, 10)}, true
	}
	kind := h.Kind(w)
	if kind < heap.KindInt || kind > heap.KindDouble || !hasBytes(h, w) {
		return api.Form{}, false
	}
	return api.Form{Kind: kind, Text: text(h, w)}, true
}

// hasBytes reports whether an object has bytes, and no fields.
func hasBytes(h *heap.Heap, w heap.Word) bool {
	_, e := h.Get(w, 0)
	return e == heap.ErrRaw
}

// text returns the bytes of an object that has some.
func text(h *heap.Heap, w heap.Word) string {
	bytes, _ := h.Bytes(w)
	return bytes
}

// fields returns the fields of an object.
func fields(h *heap.Heap, w heap.Word) []heap.Word {
	var l []heap.Word
	for i := range h.Len(w) {
		x, _ := h.Get(w, i)
		l = append(l, x)
	}
	return l
}

// isText reports whether a word is a string or a bit vector.
func isText(h *heap.Heap, w heap.Word) bool {
	kind := h.Kind(w)
	return (kind == heap.KindString || kind == heap.KindBits) && hasBytes(h, w)
}

// isCons reports whether a word is a cons with its two parts.
func isCons(h *heap.Heap, w heap.Word) bool {
	return h.Kind(w) == heap.KindCons && h.Len(w) == 2 && !hasBytes(h, w)
}

func isVector(h *heap.Heap, w heap.Word) bool {
	return h.Kind(w) == heap.KindVector && !hasBytes(h, w)
}

// isArray reports whether a word is an array of any kind.
func isArray(h *heap.Heap, w heap.Word) bool {
	if h.Kind(w) != heap.KindArray {
		return isText(h, w) || isVector(h, w)
	}
	return h.Len(w) == 2 && !hasBytes(h, w) && isVector(h, part(h, w, 0)) && isVector(h, part(h, w, 1))
}

// part returns a field that there is.
func part(h *heap.Heap, w heap.Word, i int) heap.Word {
	x, _ := h.Get(w, i)
	return x
}

// dimensions returns the dimensions of an array.
func dimensions(h *heap.Heap, w heap.Word) []heap.Word {
	switch h.Kind(w) {
	case heap.KindArray:
		return fields(h, part(h, w, 0))
	case heap.KindString:
		return []heap.Word{fixnum(utf8.RuneCountInString(text(h, w)))}
	}
	return []heap.Word{fixnum(h.Len(w))}
}

// elements returns the elements of an array.
func elements(h *heap.Heap, w heap.Word) []heap.Word {
	var l []heap.Word
	switch h.Kind(w) {
	case heap.KindArray:
		return fields(h, part(h, w, 1))
	case heap.KindVector:
		return fields(h, w)
	case heap.KindString:
		for _, c := range text(h, w) {
			l = append(l, character(c))
		}
	case heap.KindBits:
		for _, b := range []byte(text(h, w)) {
			l = append(l, fixnum(bit(b)))
		}
	}
	return l
}

func character(c rune) heap.Word {
	w, _ := heap.Char(c)
	return w
}

func bit(b byte) int {
	if b == '1' {
		return 1
	}
	return 0
}

// folded returns a character, with a to z for A to Z, and whether a word is one.
func folded(w heap.Word) (rune, bool) {
	c, ok := w.Character()
	if c >= 'A' && c <= 'Z' {
		c += 'a' - 'A'
	}
	return c, ok
}
