package sequence

import (
	"slices"

	"commonform/api"
)

// chosen returns for each element whether it is one of the taken ones that are to be changed.
func chosen(x api.Form, l []api.Form, o Options) ([]bool, api.Errno) {
	places, e := taken(x, l, o)
	if e != api.OK {
		return nil, e
	}
	if o.Count != -1 {
		places = places[:min(o.Count, len(places))]
	}
	marks := make([]bool, len(l))
	for _, i := range places {
		marks[i] = true
	}
	return marks, api.OK
}

// without returns the elements that have no mark.
func without(l []api.Form, marks []bool) []api.Form {
	var kept []api.Form
	for i, x := range l {
		if !marks[i] {
			kept = append(kept, copied(x))
		}
	}
	return kept
}

// Remove returns the elements that are not like x.
func Remove(x api.Form, l []api.Form, o Options) ([]api.Form, api.Errno) {
	marks, e := chosen(x, l, o)
	if e != api.OK {
		return nil, e
	}
	return without(l, marks), api.OK
}

// Substitute returns the elements with another one for those that are like x.
func Substitute(other, x api.Form, l []api.Form, o Options) ([]api.Form, api.Errno) {
	marks, e := chosen(x, l, o)
	if e != api.OK {
		return nil, e
	}
	changed := copies(l)
	for i, mark := range marks {
		if mark {
			changed[i] = copied(other)
		}
	}
	return changed, api.OK
}

// Distinct returns the elements without those that are like others.
func Distinct(l []api.Form, o Options) ([]api.Form, api.Errno) {
	if e := o.optionsError(l); e != api.OK {
		return nil, e
	}
	numbers, e := o.classes().each(l[o.Start:endOf(l, o.End)])
	if e != api.OK {
		return nil, e
	}
	marks := make([]bool, len(l))
	for i, n := range numbers {
		others := numbers[i+1:]
		if o.FromEnd {
			others = numbers[:i]
		}
		marks[o.Start+i] = slices.ContainsFunc(others, func(other int) bool { return (other == n) != o.Not })
	}
	return without(l, marks), api.OK
}

// Subsequence returns some elements.
func Subsequence(l []api.Form, start, end int) ([]api.Form, api.Errno) {
	if e := sizeError(l); e != api.OK {
		return nil, e
	}
	if e := boundsError(start, end, len(l)); e != api.OK {
		return nil, e
	}
	return copies(l[start:endOf(l, end)]), api.OK
}

// Replace returns the elements with some replaced by those of another sequence.
func Replace(l, m []api.Form, start, end, from, to int) ([]api.Form, api.Errno) {
	if e := sizeError(l, m); e != api.OK {
		return nil, e
	}
	if e := boundsError(start, end, len(l)); e != api.OK {
		return nil, e
	}
	if e := boundsError(from, to, len(m)); e != api.OK {
		return nil, e
	}
	replaced := copies(l)
	copy(replaced[start:endOf(l, end)], copies(m[from:endOf(m, to)]))
	return replaced, api.OK
}

// Fill returns the elements with some replaced by x.
func Fill(l []api.Form, x api.Form, start, end int) ([]api.Form, api.Errno) {
	if e := sizeError(l); e != api.OK {
		return nil, e
	}
	if e := boundsError(start, end, len(l)); e != api.OK {
		return nil, e
	}
	filled := copies(l)
	for i := range between(start, endOf(l, end), false) {
		filled[i] = copied(x)
	}
	return filled, api.OK
}

// Reverse returns the elements in the opposite order.
func Reverse(l []api.Form) ([]api.Form, api.Errno) {
	if e := sizeError(l); e != api.OK {
		return nil, e
	}
	reversed := copies(l)
	slices.Reverse(reversed)
	return reversed, api.OK
}
