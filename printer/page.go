package printer

import (
	"strings"

	"commonform/api"
	"commonform/notation"
	"commonform/number"
)

// failure is what the writing of a text panics with.
type failure api.Errno

// page is a text that is being written.
type page struct {
	o    Options
	text strings.Builder
}

// must returns a text, if it has no error.
func must(s string, e api.Errno) string {
	if e != api.OK {
		panic(failure(e))
	}
	return s
}

// Text appends a text.
func (p *page) Text(s string) {
	if p.text.Len()+len(s) > maxText {
		panic(failure(api.ErrLarge))
	}
	p.text.WriteString(s)
}

// Open begins a list.
func (p *page) Open(prefix string, _ api.Form) { p.Text(prefix) }

// Gap parts two elements.
func (p *page) Gap(int) { p.Text(" ") }

// Close ends a list.
func (p *page) Close() { p.Text(")") }

// Atom returns the text of a form without elements.
func (p *page) Atom(f api.Form) string {
	switch f.Kind {
	case api.FormSymbol:
		return must(p.o.symbol(f))
	case api.FormChar:
		return p.o.character([]rune(f.Text)[0])
	case api.FormString:
		return must(p.o.quoted(f.Text))
	case api.FormBits:
		return "#*" + f.Text
	}
	return must(number.Print(f, p.o.Base, p.o.Radix, p.o.Double))
}

// Whole reports whether an array is written with its elements.
func (p *page) Whole(f api.Form) bool {
	if p.o.Readable && (!p.o.Array || f.Kind == api.FormArray && hidden(notation.Dimensions(f))) {
		panic(failure(ErrReadable))
	}
	return p.o.Array
}

// hidden reports whether a dimension cannot be seen in the contents: one that is not 0, behind one that is 0.
func hidden(dimensions []int) bool {
	zero := false
	for _, n := range dimensions {
		if zero && n != 0 {
			return true
		}
		zero = zero || n == 0
	}
	return false
}
