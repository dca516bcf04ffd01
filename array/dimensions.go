package array

import (
	"iter"
	"slices"

	"commonform/api"
	"commonform/forms"
)

// dimensionError returns the error of dimensions.
func dimensionError(dims []int) api.Errno {
	if len(dims) > forms.MaxRank {
		return api.ErrSize
	}
	for _, d := range dims {
		if d < 0 || d > maxDimension {
			return api.ErrRange
		}
	}
	if total(dims) > maxTotal {
		return api.ErrLarge
	}
	return api.OK
}

// total returns the total size of an array; if it is too large, any number that is too large.
func total(dims []int) int {
	if slices.Contains(dims, 0) {
		return 0
	}
	n := 1
	for _, d := range dims {
		n = min(n*d, maxTotal+1)
	}
	return n
}

// everywhere yields the row-major indices with their subscripts, the last of which runs fastest. The list of subscripts is the same one each time.
func everywhere(dims []int) iter.Seq2[int, []int] {
	return func(yield func(int, []int) bool) {
		at := make([]int, len(dims))
		for index := range total(dims) {
			if !yield(index, at) {
				return
			}
			advance(at, dims)
		}
	}
}

// advance changes subscripts to those of the next index.
func advance(at, dims []int) {
	for i := len(at) - 1; i >= 0; i-- {
		at[i]++
		if at[i] < dims[i] {
			return
		}
		at[i] = 0
	}
}

// rowMajor returns the index of subscripts, and whether there is such an element.
func rowMajor(dims, at []int) (int, bool) {
	index := 0
	for i, d := range dims {
		if at[i] < 0 || at[i] >= d {
			return 0, false
		}
		index = index*d + at[i]
	}
	return index, true
}

// Subscripts returns the subscripts of a row-major index.
func Subscripts(dims []int, index int) ([]int, api.Errno) {
	if e := dimensionError(dims); e != api.OK {
		return nil, e
	}
	for i, at := range everywhere(dims) {
		if i == index {
			return slices.Clone(at), api.OK
		}
	}
	return nil, api.ErrRange
}
