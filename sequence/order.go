package sequence

import (
	"slices"

	"commonform/api"
)

// entry is an element with its key.
type entry struct{ key, element api.Form }

// entriesOf returns the elements with their keys; ErrType if one has none, or none that can be ordered.
func entriesOf(l []api.Form, order, key int) ([]entry, api.Errno) {
	var entries []entry
	for _, x := range l {
		k, ok := keyOf(key, x)
		if !ok || !ordered(order, k) {
			return nil, api.ErrType
		}
		entries = append(entries, entry{k, x})
	}
	return entries, api.OK
}

// elementsOf returns the elements of entries, as a result.
func elementsOf(entries []entry) []api.Form {
	var l []api.Form
	for _, x := range entries {
		l = append(l, copied(x.element))
	}
	return l
}

// sorter sorts entries by their keys.
type sorter struct{ less func(x, y api.Form) bool }

// sorted returns entries in order.
func (s sorter) sorted(l []entry) []entry {
	if len(l) < 2 {
		return slices.Clone(l)
	}
	half := len(l) / 2
	return s.merged(s.sorted(l[:half]), s.sorted(l[half:]))
}

// merged returns the entries of both lists: each time the next one of a, unless that of b is less.
func (s sorter) merged(a, b []entry) []entry {
	var l []entry
	for len(a) > 0 && len(b) > 0 {
		if s.less(b[0].key, a[0].key) {
			l = append(l, b[0])
			b = b[1:]
		} else {
			l = append(l, a[0])
			a = a[1:]
		}
	}
	return slices.Concat(l, a, b)
}

// Sort returns the elements in an order, equal ones as they come.
func Sort(l []api.Form, order, key int) ([]api.Form, api.Errno) {
	if e := sizeError(l); e != api.OK {
		return nil, e
	}
	if !isOrder(order) || !isKey(key) {
		return nil, api.ErrArg
	}
	entries, e := entriesOf(l, order, key)
	if e != api.OK {
		return nil, e
	}
	return elementsOf(sorter{lessBy(order)}.sorted(entries)), api.OK
}

// Merge returns the elements of two sequences, merged by an order.
func Merge(a, b []api.Form, order, key int) ([]api.Form, api.Errno) {
	if e := sizeError(a, b); e != api.OK {
		return nil, e
	}
	if !isOrder(order) || !isKey(key) {
		return nil, api.ErrArg
	}
	x, e := entriesOf(a, order, key)
	if e != api.OK {
		return nil, e
	}
	y, e := entriesOf(b, order, key)
	if e != api.OK {
		return nil, e
	}
	if len(a)+len(b) > api.MaxForm {
		return nil, api.ErrSize
	}
	return elementsOf(sorter{lessBy(order)}.merged(x, y)), api.OK
}
