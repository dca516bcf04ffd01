package sequence

import (
	"slices"

	"commonform/api"
)

// classes number elements: those whose keys are alike have the same number.
type classes struct {
	test, key int
	met       map[string]int
}

func (o Options) classes() classes { return newClasses(o.Test, o.Key) }

func newClasses(test, key int) classes {
	return classes{test: test, key: key, met: map[string]int{}}
}

// of returns the number of a key.
func (c classes) of(key api.Form) int {
	text := sketch(c.test, key)
	n, known := c.met[text]
	if !known {
		n = len(c.met)
		c.met[text] = n
	}
	return n
}

// each returns the numbers of the keys of elements; ErrType if one has no key.
func (c classes) each(l []api.Form) ([]int, api.Errno) {
	var numbers []int
	for _, x := range l {
		key, ok := keyOf(c.key, x)
		if !ok {
			return nil, api.ErrType
		}
		numbers = append(numbers, c.of(key))
	}
	return numbers, api.OK
}

// both returns the numbers of the keys of the elements of two sequences.
func (c classes) both(a, b []api.Form) (x, y []int, e api.Errno) {
	x, e = c.each(a)
	if e != api.OK {
		return nil, nil, e
	}
	y, e = c.each(b)
	if e != api.OK {
		return nil, nil, e
	}
	return x, y, api.OK
}

// taken returns the indices of the elements that are taken, in the order in which they are looked at.
func taken(x api.Form, l []api.Form, o Options) ([]int, api.Errno) {
	if e := o.optionsError(l); e != api.OK {
		return nil, e
	}
	c := o.classes()
	wanted := c.of(x)
	numbers, e := c.each(l[o.Start:endOf(l, o.End)])
	if e != api.OK {
		return nil, e
	}
	var places []int
	for i := range o.looked(l) {
		if (numbers[i-o.Start] == wanted) != o.Not {
			places = append(places, i)
		}
	}
	return places, api.OK
}

// Find returns the element that is like x.
func Find(x api.Form, l []api.Form, o Options) (api.Form, api.Errno) {
	places, e := taken(x, l, o)
	if e != api.OK {
		return api.Form{}, e
	}
	if len(places) == 0 {
		return api.Form{}, api.ErrNone
	}
	return copied(l[places[0]]), api.OK
}

// Position returns the index of the element that is like x, or -1.
func Position(x api.Form, l []api.Form, o Options) (int, api.Errno) {
	places, e := taken(x, l, o)
	if e != api.OK {
		return 0, e
	}
	if len(places) == 0 {
		return -1, api.OK
	}
	return places[0], api.OK
}

// Count returns how many elements are like x.
func Count(x api.Form, l []api.Form, o Options) (int, api.Errno) {
	places, e := taken(x, l, o)
	return len(places), e
}

// Search returns where a sequence stands in another one, or -1.
func Search(part, l []api.Form, o Options) (int, api.Errno) {
	if e := sizeError(part); e != api.OK {
		return 0, e
	}
	if e := o.optionsError(l); e != api.OK {
		return 0, e
	}
	end := endOf(l, o.End)
	wanted, there, e := o.classes().both(part, l[o.Start:end])
	if e != api.OK {
		return 0, e
	}
searching:
	for i := range between(o.Start, end-len(part)+1, o.FromEnd) {
		for k, n := range wanted {
			if there[i-o.Start+k] != n {
				continue searching
			}
		}
		return i, api.OK
	}
	return -1, api.OK
}

// Mismatch returns where two sequences begin to differ, or -1.
func Mismatch(a, b []api.Form, o Options) (int, api.Errno) {
	if e := sizeError(a, b); e != api.OK {
		return 0, e
	}
	if e := o.argumentError(); e != api.OK {
		return 0, e
	}
	x, y, e := o.classes().both(a, b)
	if e != api.OK {
		return 0, e
	}
	if slices.Equal(x, y) {
		return -1, api.OK
	}
	i := 0
	for i < min(len(x), len(y)) && x[i] == y[i] {
		i++
	}
	return i, api.OK
}
