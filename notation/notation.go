// Package notation goes through the text of a form part by part. The printer and its layouts put the same parts on different pages.
package notation

import (
	"iter"
	"strconv"
	"strings"

	"commonform/api"
	"commonform/forms"
)

// Page is what a form is written on.
type Page interface {
	// Atom returns the text of a form without elements.
	Atom(f api.Form) string
	// Whole reports whether an array is written with its elements.
	Whole(f api.Form) bool
	// Text takes a text.
	Text(s string)
	// Open begins a list, which belongs to a form.
	Open(prefix string, f api.Form)
	// Gap parts the element with a number, from 0 on, from what stands behind it.
	Gap(i int)
	// Close ends a list.
	Close()
}

// Limits are the greatest length and level, -1 for none, and whether QUOTE and its like are written as characters.
type Limits struct {
	Length, Level int
	Abbrev        bool
}

// Write writes a form on a page.
func Write(p Page, limits Limits, f api.Form) {
	writer{page: p, limits: limits}.form(f, 0, 0)
}

type writer struct {
	page   Page
	limits Limits
}

// form writes a form, in a level and in a depth of backquotes.
func (w writer) form(f api.Form, level, depth int) {
kinds:
	switch f.Kind {
	case api.FormLabel:
		w.page.Text("#" + f.Text + "=")
		w.form(f.Kids[0], level, depth)
	case api.FormRef:
		w.page.Text("#" + f.Text + "#")
	case api.FormBits, api.FormVector, api.FormArray:
		if !w.page.Whole(f) {
			w.page.Text(nameOf(f.Kind))
			break kinds
		}
		w.array(f, level, depth)
	case api.FormCons:
		if front, inner, ok := w.front(f, depth); ok {
			w.page.Text(front)
			w.form(f.Kids[1], level, inner)
			break kinds
		}
		w.list(f, level, depth)
	default:
		w.page.Text(w.page.Atom(f))
	}
}

// nameOf returns what stands for an array without its elements.
func nameOf(kind int) string {
	switch kind {
	case api.FormBits:
		return "#<BIT-VECTOR>"
	case api.FormVector:
		return "#<VECTOR>"
	}
	return "#<ARRAY>"
}

// front returns the characters that stand ahead of the second element of an abbreviated list, and the depth of backquotes behind them; false for other lists.
func (w writer) front(f api.Form, depth int) (front string, inner int, ok bool) {
	if !w.limits.Abbrev || len(f.Kids) != 3 || !forms.IsNil(f.Kids[2]) {
		return "", 0, false
	}
	switch first := f.Kids[0]; {
	case forms.Is(first, "COMMON-LISP", "QUOTE"):
		return "'", depth, true
	case forms.Is(first, "COMMON-LISP", "FUNCTION"):
		return "#'", depth, true
	case forms.Is(first, "READER", "BACKQUOTE"):
		return "`", depth + 1, true
	case depth > 0 && forms.Is(first, "READER", "COMMA") && w.beginsWithAt(f.Kids[1]):
		return ", ", depth - 1, true
	case depth > 0 && forms.Is(first, "READER", "COMMA"):
		return ",", depth - 1, true
	case depth > 0 && forms.Is(first, "READER", "SPLICE"):
		return ",@", depth - 1, true
	}
	return "", 0, false
}

// beginsWithAt reports whether the text of a form begins with @: only that of an atom can.
func (w writer) beginsWithAt(f api.Form) bool {
	switch f.Kind {
	case api.FormLabel, api.FormRef, api.FormBits, api.FormVector, api.FormArray, api.FormCons:
		return false
	}
	return strings.HasPrefix(w.page.Atom(f), "@")
}

func (w writer) list(f api.Form, level, depth int) {
	last := len(f.Kids) - 1
	var tail func()
	if !forms.IsNil(f.Kids[last]) {
		tail = func() {
			w.page.Text(". ")
			w.form(f.Kids[last], level+1, depth)
		}
	}
	w.parts("(", f, level, w.elements(f.Kids[:last], level+1, depth), tail)
}

// elements yields what writes each element of a list.
func (w writer) elements(l []api.Form, level, depth int) iter.Seq[func()] {
	return func(yield func(func()) bool) {
		for _, x := range l {
			if !yield(func() { w.form(x, level, depth) }) {
				return
			}
		}
	}
}

// array writes a bit vector, a vector or an array with its elements.
func (w writer) array(f api.Form, level, depth int) {
	switch f.Kind {
	case api.FormBits:
		w.page.Text(w.page.Atom(f))
		return
	case api.FormVector:
		w.parts("#(", f, level, w.elements(f.Kids, level+1, depth), nil)
		return
	}
	dimensions := Dimensions(f)
	front := "#" + strconv.Itoa(len(dimensions)) + "A"
	switch {
	case len(dimensions) == 0:
		w.page.Text(front)
		w.form(f.Kids[0], level, depth)
	case level == w.limits.Level:
		w.page.Text(front + "#")
	default:
		w.contents(front, f, dimensions, f.Kids, level, depth)
	}
}

// Dimensions returns the dimensions of a FormArray, whatever labels are in it.
func Dimensions(f api.Form) []int {
	var l []int
	for _, word := range strings.Fields(f.Text) {
		n, _ := strconv.Atoi(word)
		l = append(l, n)
	}
	return l
}

// contents writes those elements of an array that share their first indices.
func (w writer) contents(front string, f api.Form, dimensions []int, l []api.Form, level, depth int) {
	if len(dimensions) == 0 {
		w.form(l[0], level, depth)
		return
	}
	w.parts(front+"(", f, level, func(yield func(func()) bool) {
		for i := range dimensions[0] {
			size := len(l) / dimensions[0]
			if !yield(func() { w.contents("", f, dimensions[1:], l[i*size:(i+1)*size], level+1, depth) }) {
				return
			}
		}
	}, nil)
}

// parts writes a list, of whose elements each one is written by a function, and so is its tail, if there is one.
func (w writer) parts(prefix string, f api.Form, level int, elements iter.Seq[func()], tail func()) {
	if level == w.limits.Level {
		w.page.Text("#")
		return
	}
	w.page.Open(prefix, f)
	n, cut := 0, false
	for write := range elements {
		if n > 0 {
			w.page.Gap(n - 1)
		}
		if cut = n == w.limits.Length; cut {
			w.page.Text("...")
			break
		}
		write()
		n++
	}
	if tail != nil && !cut {
		w.page.Gap(n - 1)
		tail()
	}
	w.page.Close()
}
