package array

import (
	"strconv"
	"strings"

	"commonform/api"
	"commonform/forms"
)

// Total returns how many elements an array has.
func (r *Room) Total(a int) (int, api.Errno) {
	c, e := r.cell(a)
	if e != api.OK {
		return 0, e
	}
	return total(c.Dims), api.OK
}

// Length returns the length of a vector, up to its fill pointer.
func (r *Room) Length(a int) (int, api.Errno) {
	c, e := r.cell(a)
	if e != api.OK {
		return 0, e
	}
	if len(c.Dims) != 1 {
		return 0, ErrRank
	}
	return c.active(), api.OK
}

// active returns the number of elements that are not behind a fill pointer.
func (c cell) active() int {
	if c.Fill >= 0 {
		return c.Fill
	}
	return total(c.Dims)
}

// Index returns the row-major index of some subscripts.
func (r *Room) Index(a int, at []int) (int, api.Errno) {
	c, e := r.cell(a)
	if e != api.OK {
		return 0, e
	}
	if len(at) != len(c.Dims) {
		return 0, ErrRank
	}
	index, ok := rowMajor(c.Dims, at)
	if !ok {
		return 0, api.ErrRange
	}
	return index, api.OK
}

// origin returns in which array, and at which index, an element lies that there is.
func (r *Room) origin(a, index int) (int, int) {
	c := r.arrays[a]
	if c.Target < 0 {
		return a, index
	}
	return r.origin(c.Target, c.Offset+index)
}

// element returns an element that there is; it is not to be changed.
func (r *Room) element(a, index int) api.Form {
	owner, at := r.origin(a, index)
	return r.arrays[owner].own[at]
}

// put changes an element that there is.
func (r *Room) put(a, index int, x api.Form) {
	owner, at := r.origin(a, index)
	r.arrays[owner].own[at] = copied(x)
}

// indexError returns the error of an array and a row-major index.
func (r *Room) indexError(a, index int) api.Errno {
	c, e := r.cell(a)
	if e == api.OK && (index < 0 || index >= total(c.Dims)) {
		return api.ErrRange
	}
	return e
}

// Where returns in which array, and at which index, an element lies.
func (r *Room) Where(a, index int) (array, at int, e api.Errno) {
	if e := r.indexError(a, index); e != api.OK {
		return 0, 0, e
	}
	array, at = r.origin(a, index)
	return array, at, api.OK
}

// Get returns an element by its row-major index.
func (r *Room) Get(a, index int) (api.Form, api.Errno) {
	if e := r.indexError(a, index); e != api.OK {
		return api.Form{}, e
	}
	return copied(r.element(a, index)), api.OK
}

// Set changes an element by its row-major index.
func (r *Room) Set(a, index int, x api.Form) api.Errno {
	if e := r.indexError(a, index); e != api.OK {
		return e
	}
	if e := elementError(r.arrays[a].Array, x); e != api.OK {
		return e
	}
	r.put(a, index, x)
	return api.OK
}

// shown returns the elements ahead of a fill pointer; they are not to be changed.
func (r *Room) shown(a int) []api.Form {
	var l []api.Form
	for i := range r.arrays[a].active() {
		l = append(l, r.element(a, i))
	}
	return l
}

// Contents returns all elements in row-major order.
func (r *Room) Contents(a int) ([]api.Form, api.Errno) {
	if _, e := r.cell(a); e != api.OK {
		return nil, e
	}
	return copies(r.shown(a)), api.OK
}

// Form returns the form of an array.
func (r *Room) Form(a int) (api.Form, api.Errno) {
	c, e := r.cell(a)
	if e != api.OK {
		return api.Form{}, e
	}
	f := api.Form{Kind: api.FormVector, Kids: r.shown(a)}
	switch {
	case len(c.Dims) != 1:
		f.Kind, f.Text = api.FormArray, dimensionText(c.Dims)
	case c.Bits:
		f = api.Form{Kind: api.FormBits, Text: bitText(f.Kids)}
	}
	// all that can be wrong with a form of right elements is its size
	if forms.Check(f) != api.OK {
		return api.Form{}, api.ErrSize
	}
	return copied(f), api.OK
}

func dimensionText(dims []int) string {
	var words []string
	for _, d := range dims {
		words = append(words, strconv.Itoa(d))
	}
	return strings.Join(words, " ")
}

func bitText(l []api.Form) string {
	var text strings.Builder
	for _, x := range l {
		text.WriteString(x.Text)
	}
	return text.String()
}
