package sequence

import (
	"slices"

	"commonform/api"
)

// parted returns for each element of a whether its key is like that of one of b.
func parted(a, b []api.Form, test, key int) ([]bool, api.Errno) {
	if !isTest(test) || !isKey(key) {
		return nil, api.ErrArg
	}
	x, y, e := newClasses(test, key).both(a, b)
	if e != api.OK {
		return nil, e
	}
	there := map[int]bool{}
	for _, n := range y {
		there[n] = true
	}
	marks := make([]bool, len(a))
	for i, n := range x {
		marks[i] = there[n]
	}
	return marks, api.OK
}

// Union returns the elements of two sets.
func Union(a, b []api.Form, test, key int) ([]api.Form, api.Errno) {
	if e := sizeError(a, b); e != api.OK {
		return nil, e
	}
	marks, e := parted(b, a, test, key)
	if e != api.OK {
		return nil, e
	}
	all := append(copies(a), without(b, marks)...)
	if e := sizeError(all); e != api.OK {
		return nil, e
	}
	return all, api.OK
}

// Intersection returns the elements of a set that another one has, too.
func Intersection(a, b []api.Form, test, key int) ([]api.Form, api.Errno) {
	if e := sizeError(a, b); e != api.OK {
		return nil, e
	}
	marks, e := parted(a, b, test, key)
	if e != api.OK {
		return nil, e
	}
	for i := range marks {
		marks[i] = !marks[i]
	}
	return without(a, marks), api.OK
}

// Difference returns the elements of a set that another one does not have.
func Difference(a, b []api.Form, test, key int) ([]api.Form, api.Errno) {
	if e := sizeError(a, b); e != api.OK {
		return nil, e
	}
	marks, e := parted(a, b, test, key)
	if e != api.OK {
		return nil, e
	}
	return without(a, marks), api.OK
}

// Subset reports whether a set has all elements of another one.
func Subset(a, b []api.Form, test, key int) (bool, api.Errno) {
	if e := sizeError(a, b); e != api.OK {
		return false, e
	}
	marks, e := parted(a, b, test, key)
	if e != api.OK {
		return false, e
	}
	return !slices.Contains(marks, false), api.OK
}
