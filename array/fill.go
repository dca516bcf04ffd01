package array

import (
	"slices"
	"strconv"

	"commonform/api"
)

// SetFill changes a fill pointer.
func (r *Room) SetFill(a, fill int) api.Errno {
	c, e := r.cell(a)
	switch {
	case e != api.OK:
		return e
	case c.Fill < 0:
		return ErrFill
	case fill < 0 || fill > c.Dims[0]:
		return api.ErrRange
	}
	r.arrays[a].Fill = fill
	return api.OK
}

// Push puts an element behind the fill pointer.
func (r *Room) Push(a int, x api.Form, extend int) (int, api.Errno) {
	c, e := r.cell(a)
	if e != api.OK {
		return 0, e
	}
	if c.Fill < 0 {
		return 0, ErrFill
	}
	if e := elementError(c.Array, x); e != api.OK {
		return 0, e
	}
	if c.Fill == c.Dims[0] {
		if e := r.extend(a, extend, x); e != api.OK {
			return 0, e
		}
	}
	r.put(a, c.Fill, x)
	r.arrays[a].Fill++
	return c.Fill, api.OK
}

// extend makes a vector longer.
func (r *Room) extend(a, by int, initial api.Form) api.Errno {
	c := r.arrays[a]
	if !c.Adjustable || by == 0 {
		return api.ErrFull
	}
	// a length below the fill pointer is out of range, and so is one that overflows
	return r.Adjust(a, []int{c.Dims[0] + by}, -2, initial)
}

// Pop takes the element ahead of the fill pointer.
func (r *Room) Pop(a int) (api.Form, api.Errno) {
	c, e := r.cell(a)
	if e != api.OK {
		return api.Form{}, e
	}
	if c.Fill <= 0 {
		return api.Form{}, ErrFill
	}
	r.arrays[a].Fill--
	return copied(r.element(a, c.Fill-1)), api.OK
}

// Boole combines two bit arrays into a third one.
func (r *Room) Boole(op, a, b, into int) api.Errno {
	var l [3]cell
	for i, number := range [3]int{a, b, into} {
		c, e := r.cell(number)
		if e != api.OK {
			return e
		}
		l[i] = c
	}
	switch {
	case op < 0 || op > 15:
		return api.ErrArg
	case !l[0].Bits || !l[1].Bits || !l[2].Bits:
		return ErrBits
	case !slices.Equal(l[0].Dims, l[1].Dims) || !slices.Equal(l[0].Dims, l[2].Dims):
		return ErrRank
	}
	combine := func(x, y api.Form) api.Form {
		place := bit(x)<<1 | bit(y)
		return api.Form{Kind: api.FormInt, Text: strconv.Itoa(op >> place & 1)}
	}
	// the arrays may show the same elements: each one is read when its turn comes
	for i := range total(l[0].Dims) {
		r.put(into, i, combine(r.element(a, i), r.element(b, i)))
	}
	return api.OK
}

func bit(x api.Form) int {
	if x.Text == "1" {
		return 1
	}
	return 0
}
