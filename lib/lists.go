package lib

import (
	"iter"

	"commonform/api"
	"commonform/heap"
	"commonform/table"
)

// maxTail is how often NTHCDR goes on at most.
const maxTail = 10000

func listRoutines() map[string]routine {
	return map[string]routine{
		"CONS":   one(func(w *World, a []heap.Word) heap.Word { return w.cons(a[0], a[1]) }),
		"CAR":    one(func(w *World, a []heap.Word) heap.Word { return w.car(a[0]) }),
		"CDR":    one(func(w *World, a []heap.Word) heap.Word { return w.cdr(a[0]) }),
		"RPLACA": replace(0),
		"RPLACD": replace(1),
		"LIST":   one(func(w *World, a []heap.Word) heap.Word { return w.list(a, heap.Nil) }),
		"LIST*": one(func(w *World, a []heap.Word) heap.Word {
			return w.list(a[:len(a)-1], a[len(a)-1])
		}),
		"CONSP":     whether((*World).isCons),
		"ATOM":      whether(func(w *World, x heap.Word) bool { return !w.isCons(x) }),
		"LISTP":     whether(func(w *World, x heap.Word) bool { return w.is(x, 'l') }),
		"NULL":      whether(func(_ *World, x heap.Word) bool { return x == heap.Nil }),
		"NOT":       whether(func(_ *World, x heap.Word) bool { return x == heap.Nil }),
		"APPEND":    one((*World).appended),
		"REVERSE":   one((*World).reversed),
		"NTH":       one((*World).nth),
		"NTHCDR":    one((*World).nthTail),
		"LAST":      one((*World).last),
		"LENGTH":    one(func(w *World, a []heap.Word) heap.Word { return fixnum(w.size(a[0])) }),
		"MEMBER":    one((*World).member),
		"ASSOC":     one((*World).assoc),
		"COPY-LIST": one(func(w *World, a []heap.Word) heap.Word { return w.list(w.items(a[0]), heap.Nil) }),
	}
}

func (w *World) isCons(x heap.Word) bool { return w.heap.Kind(x) == heap.KindCons }

// cons makes a cons.
func (w *World) cons(car, cdr heap.Word) heap.Word {
	x := made(w.heap.New(heap.KindCons, 2))
	w.heap.Set(x, 0, car)
	w.heap.Set(x, 1, cdr)
	return x
}

// car returns the car of a list.
func (w *World) car(x heap.Word) heap.Word {
	if x == heap.Nil {
		return heap.Nil
	}
	return w.field(x, 0)
}

// cdr returns the cdr of a list.
func (w *World) cdr(x heap.Word) heap.Word {
	if x == heap.Nil {
		return heap.Nil
	}
	return w.field(x, 1)
}

// replace changes a field of a cons.
func replace(i int) routine {
	return one(func(w *World, a []heap.Word) heap.Word {
		w.heap.Set(a[0], i, a[1])
		return a[0]
	})
}

// list makes a list with a tail.
func (w *World) list(l []heap.Word, tail heap.Word) heap.Word {
	for i := len(l) - 1; i >= 0; i-- {
		tail = w.cons(l[i], tail)
	}
	return tail
}

// conses yields the conses of a list, until one is met again that was marked: the mark moves on, so that it stands in the circle sooner or later.
func (w *World) conses(x heap.Word) iter.Seq[heap.Word] {
	return func(yield func(heap.Word) bool) {
		var mark heap.Word
		for n, next := 0, 1; w.isCons(x) && x != mark; n++ {
			if n == next {
				mark, next = x, 2*next
			}
			if !yield(x) {
				return
			}
			x = w.field(x, 1)
		}
	}
}

// end returns what is behind the last cons of a list: of a circular one a cons.
func (w *World) end(x heap.Word) heap.Word {
	end := x
	for c := range w.conses(x) {
		end = w.field(c, 1)
	}
	return end
}

func (w *World) isProper(x heap.Word) bool { return w.end(x) == heap.Nil }

// items returns the elements of a proper list.
func (w *World) items(x heap.Word) []heap.Word {
	var l []heap.Word
	for ; w.isCons(x); x = w.field(x, 1) {
		l = append(l, w.field(x, 0))
	}
	return l
}

func (w *World) appended(a []heap.Word) heap.Word {
	if len(a) == 0 {
		return heap.Nil
	}
	var l []heap.Word
	for _, x := range a[:len(a)-1] {
		if !w.isProper(x) {
			w.wrong(x, "LIST")
		}
		l = append(l, w.items(x)...)
	}
	return w.list(l, a[len(a)-1])
}

func (w *World) reversed(a []heap.Word) heap.Word {
	l := heap.Nil
	for _, x := range w.items(a[0]) {
		l = w.cons(x, l)
	}
	return l
}

func (w *World) nthTail(a []heap.Word) heap.Word {
	n, ok := w.index(a[0])
	if !ok {
		n = maxTail
	}
	x := a[1]
	for range min(n, maxTail) {
		x = w.cdr(w.someList(x))
	}
	return x
}

// someList returns a list; all else is a fault.
func (w *World) someList(x heap.Word) heap.Word {
	if !w.is(x, 'l') {
		w.wrong(x, "LIST")
	}
	return x
}

func (w *World) nth(a []heap.Word) heap.Word { return w.car(w.someList(w.nthTail(a))) }

func (w *World) last(a []heap.Word) heap.Word {
	if w.isCons(w.end(a[0])) {
		w.wrong(a[0], "LIST")
	}
	x := a[0]
	for c := range w.conses(x) {
		x = c
	}
	return x
}

// eql reports whether two words are EQL.
func (w *World) eql(a, b heap.Word) bool {
	same, _ := table.Eql(w.heap, a, b)
	return same
}

func (w *World) member(a []heap.Word) heap.Word {
	for c := range w.conses(a[1]) {
		if w.eql(a[0], w.field(c, 0)) {
			return c
		}
	}
	return heap.Nil
}

func (w *World) assoc(a []heap.Word) heap.Word {
	for c := range w.conses(a[1]) {
		pair := w.someList(w.field(c, 0))
		if pair != heap.Nil && w.eql(a[0], w.field(pair, 0)) {
			return pair
		}
	}
	return heap.Nil
}

func kindRoutines() map[string]routine {
	kind := func(kinds ...int) routine {
		return whether(func(w *World, x heap.Word) bool {
			for _, k := range kinds {
				if w.heap.Kind(x) == k {
					return true
				}
			}
			return false
		})
	}
	letter := func(b byte) routine {
		return whether(func(w *World, x heap.Word) bool { return w.is(x, b) })
	}
	same := func(f func(*heap.Heap, heap.Word, heap.Word) (bool, api.Errno)) routine {
		return one(func(w *World, a []heap.Word) heap.Word {
			yes, _ := f(w.heap, a[0], a[1])
			return w.truth(yes)
		})
	}
	return map[string]routine{
		"EQ":      one(func(w *World, a []heap.Word) heap.Word { return w.truth(a[0] == a[1]) }),
		"EQL":     same(table.Eql),
		"EQUAL":   same(table.Equal),
		"EQUALP":  same(table.Equalp),
		"SYMBOLP": letter('s'),
		"KEYWORDP": whether(func(w *World, x heap.Word) bool {
			home, _, _ := w.Name(x)
			return home == keyword
		}),
		"NUMBERP":      letter('n'),
		"INTEGERP":     letter('i'),
		"RATIONALP":    letter('a'),
		"REALP":        letter('r'),
		"FLOATP":       kind(heap.KindSingle, heap.KindDouble),
		"COMPLEXP":     kind(heap.KindComplex),
		"CHARACTERP":   letter('c'),
		"STRINGP":      letter('t'),
		"BIT-VECTOR-P": kind(heap.KindBits),
		"VECTORP":      whether((*World).isVector),
		"ARRAYP":       letter('v'),
		"FUNCTIONP":    whether((*World).isFunction),
		"HASH-TABLE-P": letter('h'),
	}
}
