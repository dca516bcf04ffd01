package number

import (
	"commonform/api"
)

// Equals reports whether x and y have the same value.
func Equals(x, y api.Form) (bool, api.Errno) {
	v, w, e := parseBoth(x, y)
	if e != api.OK {
		return false, e
	}
	for i, part := range v.parts {
		if part.exactly().Cmp(w.parts[i].exactly()) != 0 {
			return false, api.OK
		}
	}
	return true, api.OK
}

// Eql reports whether x and y are the same number of the same kind.
func Eql(x, y api.Form) (bool, api.Errno) {
	_, _, e := parseBoth(x, y)
	if e != api.OK || x.Kind != y.Kind || x.Text != y.Text {
		return false, e
	}
	for i, kid := range x.Kids {
		if kid.Kind != y.Kids[i].Kind || kid.Text != y.Kids[i].Text {
			return false, api.OK
		}
	}
	return true, api.OK
}

// Cmp compares two real numbers.
func Cmp(x, y api.Form) (int, api.Errno) {
	s, t, e := parseReals(x, y)
	if e != api.OK {
		return 0, e
	}
	return s.exactly().Cmp(t.exactly()), api.OK
}

// Greatest returns the first one of the greatest real numbers.
func Greatest(l []api.Form) (api.Form, api.Errno) {
	if len(l) == 0 {
		return api.Form{}, api.ErrNone
	}
	var greatest scalar
	for i, x := range l {
		s, e := parseReal(x)
		if e != api.OK {
			return api.Form{}, e
		}
		if i == 0 || s.exactly().Cmp(greatest.exactly()) > 0 {
			greatest = s
		}
	}
	return greatest.form()
}
