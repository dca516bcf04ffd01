package lib

import (
	"unicode/utf8"

	"commonform/api"
	"commonform/heap"
	"commonform/table"
)

// Limits of MAKE-ARRAY.
const (
	maxElements = 16384
	maxRank     = 7
)

func arrayRoutines() map[string]routine {
	return map[string]routine{
		"VECTOR":           one((*World).vector),
		"MAKE-ARRAY":       one((*World).makeArray),
		"AREF":             one((*World).element),
		"%ASET":            one((*World).setElement),
		"ARRAY-DIMENSIONS": one(func(w *World, a []heap.Word) heap.Word { return w.list(w.dimensions(a[0]), heap.Nil) }),
		"ARRAY-RANK":       one(func(w *World, a []heap.Word) heap.Word { return fixnum(len(w.dimensions(a[0]))) }),
		"MAKE-HASH-TABLE":  one((*World).makeTable),
		"GETHASH":          (*World).get,
		"%PUTHASH": one(func(w *World, a []heap.Word) heap.Word {
			return made(a[2], table.Put(w.heap, a[1], a[0], a[2]))
		}),
		"REMHASH": one(func(w *World, a []heap.Word) heap.Word {
			there, _ := table.Remove(w.heap, a[1], a[0])
			return w.truth(there)
		}),
		"CLRHASH": one(func(w *World, a []heap.Word) heap.Word { return made(a[0], table.Clear(w.heap, a[0])) }),
		"HASH-TABLE-COUNT": one(func(w *World, a []heap.Word) heap.Word {
			n, _ := table.Count(w.heap, a[0])
			return fixnum(n)
		}),
		"HASH-KEYS": one(func(w *World, a []heap.Word) heap.Word {
			l, _ := table.Keys(w.heap, a[0])
			return w.list(l, heap.Nil)
		}),
	}
}

// fields returns the fields of an object.
func (w *World) fields(x heap.Word) []heap.Word {
	var l []heap.Word
	for i := range w.heap.Len(x) {
		y, e := w.heap.Get(x, i)
		if e != api.OK {
			return nil
		}
		l = append(l, y)
	}
	return l
}

// elements returns the elements of a sequence.
func (w *World) elements(x heap.Word) []heap.Word {
	var l []heap.Word
	switch w.heap.Kind(x) {
	case heap.KindString:
		for _, c := range w.text(x) {
			l = append(l, character(c))
		}
	case heap.KindBits:
		for _, b := range []byte(w.text(x)) {
			l = append(l, fixnum(int(b&1)))
		}
	case heap.KindVector:
		return w.fields(x)
	case heap.KindCons:
		return w.items(x)
	}
	return l
}

// arrayParts returns the dimensions and the elements of an object of the kind KindArray, and whether it is made as such objects are.
func (w *World) arrayParts(x heap.Word) (dimensions, elements []heap.Word, ok bool) {
	both := w.fields(x)
	if len(both) != 2 || w.heap.Kind(both[0]) != heap.KindVector || w.heap.Kind(both[1]) != heap.KindVector {
		return nil, nil, false
	}
	dimensions, elements = w.fields(both[0]), w.fields(both[1])
	size := 1
	for _, d := range dimensions {
		n, natural := w.index(d)
		if !natural {
			return nil, nil, false
		}
		size = min(size*min(n, api.MaxWords), api.MaxWords)
	}
	return dimensions, elements, size == len(elements)
}

// dimensions returns the dimensions of an array.
func (w *World) dimensions(x heap.Word) []heap.Word {
	if w.heap.Kind(x) == heap.KindArray {
		return w.fields(w.field(x, 0))
	}
	return []heap.Word{fixnum(w.size(x))}
}

// size returns how many elements a sequence has.
func (w *World) size(x heap.Word) int {
	switch w.heap.Kind(x) {
	case heap.KindString:
		return utf8.RuneCountInString(w.text(x))
	case heap.KindBits, heap.KindVector:
		return w.heap.Len(x)
	}
	return len(w.items(x))
}

// vector makes a vector.
func (w *World) vector(l []heap.Word) heap.Word {
	x := made(w.heap.New(heap.KindVector, len(l)))
	for i, y := range l {
		w.heap.Set(x, i, y)
	}
	return x
}

func (w *World) makeArray(a []heap.Word) heap.Word {
	initial := heap.Nil
	if len(a) > 1 {
		initial = a[1]
	}
	if w.isNatural(a[0]) {
		return w.filled([]heap.Word{a[0]}, initial)
	}
	if !w.isProper(a[0]) {
		w.wrong(a[0], "LIST")
	}
	dimensions := w.items(a[0])
	for _, d := range dimensions {
		if !w.isNatural(d) {
			w.wrong(a[0], "LIST")
		}
	}
	if len(dimensions) == 1 {
		return w.filled(dimensions, initial)
	}
	if len(dimensions) > maxRank {
		panic(api.ErrWords)
	}
	elements := w.filled(dimensions, initial)
	own := w.vector(dimensions)
	x := made(w.heap.New(heap.KindArray, 2))
	w.heap.Set(x, 0, own)
	w.heap.Set(x, 1, elements)
	return x
}

// filled makes a vector with as many elements as the product of dimensions.
func (w *World) filled(dimensions []heap.Word, initial heap.Word) heap.Word {
	size := 1
	for _, d := range dimensions {
		n, ok := w.index(d)
		if !ok { // a dimension is a fixnum
			panic(api.ErrWords)
		}
		size = min(size, maxElements+1) * min(n, maxElements+1)
	}
	if size > maxElements {
		panic(api.ErrWords)
	}
	l := make([]heap.Word, size)
	for i := range l {
		l[i] = initial
	}
	return w.vector(l)
}

// place returns the place of an element in row-major order; name is that of the builtin function.
func (w *World) place(name string, x heap.Word, indices []heap.Word) int {
	dimensions := w.dimensions(x)
	if len(indices) != len(dimensions) {
		fail("PROGRAM-ERROR", w.lisp(name))
	}
	at := 0
	for i, d := range dimensions {
		n, _ := w.index(d)
		at = at*n + w.below(indices[i], n)
	}
	return at
}

func (w *World) element(a []heap.Word) heap.Word {
	at := w.place("AREF", a[0], a[1:])
	switch x := a[0]; w.heap.Kind(x) {
	case heap.KindVector:
		return w.field(x, at)
	case heap.KindArray:
		return w.field(w.field(x, 1), at)
	}
	return w.elements(a[0])[at]
}

func (w *World) setElement(a []heap.Word) heap.Word {
	x, indices, y := a[0], a[1:len(a)-1], a[len(a)-1]
	kind := w.heap.Kind(x)
	if kind == heap.KindString || kind == heap.KindBits {
		w.wrong(x, "ARRAY")
	}
	at := w.place("%ASET", x, indices)
	if kind == heap.KindArray {
		x = w.field(x, 1)
	}
	w.heap.Set(x, at, y)
	return y
}

func (w *World) makeTable(a []heap.Word) heap.Word {
	_, name, _ := w.Name(a[0])
	test := table.Eq
	switch name {
	case "EQ":
	case "EQL":
		test = table.EqlTest
	case "EQUAL":
		test = table.EqualTest
	case "EQUALP":
		test = table.EqualpTest
	default:
		w.wrong(a[0], "FUNCTION")
	}
	return made(table.New(w.heap, test, false))
}

func (w *World) get(a []heap.Word) Answer {
	x, there, e := table.Get(w.heap, a[1], a[0])
	x = made(x, e)
	if there {
		return values(x, w.truth(true))
	}
	if len(a) > 2 {
		return values(a[2], heap.Nil)
	}
	return values(heap.Nil, heap.Nil)
}
