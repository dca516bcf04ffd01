package lib

import (
	"strings"

	"commonform/api"
	"commonform/heap"
)

func textRoutines() map[string]routine {
	return map[string]routine{
		"CHAR-CODE": one(func(_ *World, a []heap.Word) heap.Word {
			c, _ := a[0].Character()
			return fixnum(int(c))
		}),
		"CODE-CHAR":     one((*World).charOfCode),
		"CHAR-UPCASE":   cased('a', 'z', 'A'),
		"CHAR-DOWNCASE": cased('A', 'Z', 'a'),
		"CHAR":          one((*World).char),
		"STRING=": one(func(w *World, a []heap.Word) heap.Word {
			return w.truth(w.text(a[0]) == w.text(a[1]))
		}),
		"STRING<": one((*World).before),
		"CONCAT":  one((*World).joined),
		"SUBSEQ":  one((*World).section),
		"STRING":  one((*World).string),
	}
}

// text returns the bytes of an object that has some.
func (w *World) text(x heap.Word) string {
	s, _ := w.heap.Bytes(x)
	return s
}

// str makes a string.
func (w *World) str(s string) heap.Word { return made(w.heap.Raw(heap.KindString, s)) }

// character returns a character; what is none becomes the one that stands for such.
func character(c rune) heap.Word {
	x, _ := heap.Char(c)
	return x
}

func (w *World) charOfCode(a []heap.Word) heap.Word {
	n, ok := w.index(a[0])
	if !ok || n > 0x10ffff {
		return heap.Nil
	}
	x, e := heap.Char(rune(n))
	if e != api.OK {
		return heap.Nil
	}
	return x
}

// cased makes a routine that changes the case of the letters in a range.
func cased(first, last, to rune) routine {
	return one(func(_ *World, a []heap.Word) heap.Word {
		c, _ := a[0].Character()
		if first <= c && c <= last {
			c += to - first
		}
		return character(c)
	})
}

func (w *World) char(a []heap.Word) heap.Word {
	at := w.below(a[1], w.size(a[0]))
	return w.elements(a[0])[at]
}

// below returns the value of an index that is below a limit.
func (w *World) below(x heap.Word, limit int) int {
	i, ok := w.index(x)
	if !ok || i >= limit {
		w.wrong(x, "INTEGER")
	}
	return i
}

func (w *World) before(a []heap.Word) heap.Word {
	x, y := []rune(w.text(a[0])), []rune(w.text(a[1]))
	i := 0
	for i < len(x) && i < len(y) && x[i] == y[i] {
		i++
	}
	if i < len(y) && (i == len(x) || x[i] < y[i]) {
		return fixnum(i)
	}
	return heap.Nil
}

func (w *World) joined(a []heap.Word) heap.Word {
	var all strings.Builder
	for _, x := range a {
		all.WriteString(w.text(x))
	}
	return w.str(all.String())
}

// section returns a part of a sequence.
func (w *World) section(a []heap.Word) heap.Word {
	l := w.elements(a[0])
	from := w.bound(a[1], 0, len(l))
	to := len(l)
	if len(a) > 2 {
		to = w.bound(a[2], from, len(l))
	}
	switch kind := w.heap.Kind(a[0]); kind {
	case heap.KindString:
		return w.str(characters(w.text(a[0]), from, to))
	case heap.KindBits:
		return made(w.heap.Raw(kind, w.text(a[0])[from:to]))
	case heap.KindVector:
		return w.vector(l[from:to])
	}
	return w.list(l[from:to], heap.Nil)
}

// bound returns the value of an index between two others, both included.
func (w *World) bound(x heap.Word, from, to int) int {
	i, ok := w.index(x)
	if !ok || i < from || i > to {
		w.wrong(x, "INTEGER")
	}
	return i
}

// characters returns some characters of a text, by their numbers.
func characters(s string, from, to int) string {
	n, start, end := 0, len(s), len(s)
	for at := range s {
		if n == from {
			start = at
		}
		if n == to {
			end = at
		}
		n++
	}
	return s[start:end]
}

func (w *World) string(a []heap.Word) heap.Word {
	if w.is(a[0], 't') {
		return a[0]
	}
	if c, ok := a[0].Character(); ok {
		return w.str(string(c))
	}
	if !w.isSymbol(a[0]) {
		w.wrong(a[0], "STRING")
	}
	_, name, _ := w.Name(a[0])
	return w.str(name)
}
