package array

import (
	"slices"

	"commonform/api"
)

// Adjust gives an array other dimensions.
func (r *Room) Adjust(a int, dims []int, fill int, initial api.Form) api.Errno {
	c, e := r.cell(a)
	if e != api.OK {
		return e
	}
	if e := otherDimensions(c, dims); e != api.OK {
		return e
	}
	if fill != -2 {
		if (fill == -1) != (c.Fill == -1) {
			return ErrFill
		}
		c.Fill = fill
	}
	if fill < -2 || c.Fill >= 0 && c.Fill > dims[0] {
		return api.ErrRange
	}
	if e := elementError(c.Array, initial); e != api.OK {
		return e
	}
	own := filled(total(dims), initial)
	for old, at := range everywhere(c.Dims) {
		if index, kept := rowMajor(dims, at); kept {
			own[index] = r.element(a, old)
		}
	}
	c.own, c.Dims = own, slices.Clone(dims)
	c.Target, c.Offset = -1, 0
	return r.change(a, c)
}

// otherDimensions returns the first error of dimensions that an array is to have.
func otherDimensions(c cell, dims []int) api.Errno {
	if !c.Adjustable {
		return api.ErrArg
	}
	if e := dimensionError(dims); e != api.OK {
		return e
	}
	if len(dims) != len(c.Dims) {
		return ErrRank
	}
	return api.OK
}

// Displace makes an array show the elements of another one.
func (r *Room) Displace(a int, dims []int, target, offset int) api.Errno {
	c, e := r.cell(a)
	if e != api.OK {
		return e
	}
	if e := otherDimensions(c, dims); e != api.OK {
		return e
	}
	if !r.has(target) {
		return api.ErrNone
	}
	if r.shows(target, a) {
		return api.ErrOrder
	}
	c.own, c.Dims = nil, slices.Clone(dims)
	c.Target, c.Offset = target, offset
	if e := r.displacedError(c.Array); e != api.OK {
		return e
	}
	if c.Fill >= 0 && c.Fill > dims[0] {
		return api.ErrRange
	}
	return r.change(a, c)
}

// shows reports whether an array is another one, or is displaced to it.
func (r *Room) shows(a, other int) bool {
	if a == other {
		return true
	}
	target := r.arrays[a].Target
	return target >= 0 && r.shows(target, other)
}

// change makes an array lie in another way. If one that is displaced to it does not fit any more, the old one is put back.
func (r *Room) change(a int, c cell) api.Errno {
	old := r.arrays[a]
	r.arrays[a] = c
	for _, other := range r.arrays {
		if other.Target == a && !fits(other.Array, c.Array) {
			r.arrays[a] = old
			return api.ErrSize
		}
	}
	return api.OK
}
