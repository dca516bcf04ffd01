package types

import (
	"commonform/api"
	"commonform/forms"
	"commonform/number"
)

// limit is an integer, or one of both ends of all integers.
type limit struct {
	end   int // -1 or 1; 0: the integer
	value api.Form
}

// form returns the form of a limit in a type: * for an end.
func (l limit) form() api.Form {
	if l.end != 0 {
		return star()
	}
	return l.value
}

// interval is where the integers of a type lie.
type interval struct{ low, high limit }

// integers returns where the integers of a type lie, and whether there are any.
func integers(t spec) (interval, bool) {
	var found interval
	some := false
	for _, s := range newField(t).line {
		x, there := s.integer()
		if !there || !t.has(x) {
			continue
		}
		if !some {
			found.low = s.lowest()
		}
		found.high = s.highest()
		some = true
	}
	return found, some
}

// lowest returns the lower limit of the integers of a stretch that has some.
func (s stretch) lowest() limit {
	if !s.low.some {
		return limit{end: -1}
	}
	n, _ := s.least()
	return limit{value: n}
}

// highest returns the upper limit of the integers of a stretch that has some.
func (s stretch) highest() limit {
	if !s.high.some {
		return limit{end: 1}
	}
	n, _ := s.greatest()
	return limit{value: n}
}

// Integers returns between which bounds the integers of a type lie.
func Integers(t api.Form) (some bool, lo, hi api.Form, e api.Errno) {
	s, e := read(t)
	if e != api.OK {
		return false, api.Form{}, api.Form{}, e
	}
	found, some := integers(s)
	if !some {
		return false, api.Form{}, api.Form{}, api.OK
	}
	return true, found.low.form(), found.high.form(), api.OK
}

// calculated returns a type of the results of an operation on the objects of two types, which makes of two intervals another one.
func calculated(a, b api.Form, operation func(x, y interval) interval) (api.Form, api.Errno) {
	specs, e := readAll(a, b)
	if e != api.OK {
		return api.Form{}, e
	}
	integer := sorted(isInteger)
	u := newUniverse(append(specs, integer)...)
	for _, s := range specs {
		if u.without(u.set(s), u.set(integer)) != none {
			return forms.Symbol(lisp, "NUMBER"), api.OK
		}
	}
	x, left := integers(specs[0])
	y, right := integers(specs[1])
	if !left || !right {
		return forms.Nil(), api.OK
	}
	z := operation(x, y)
	return forms.Call("INTEGER", []api.Form{z.low.shortForm(), z.high.shortForm()}), api.OK
}

// shortForm returns the form of a limit: * if it is too long for a type.
func (l limit) shortForm() api.Form {
	if len(l.value.Text) > maxText {
		return star()
	}
	return l.form()
}

// Plus returns a type of the sums of the objects of two types.
func Plus(a, b api.Form) (api.Form, api.Errno) {
	return calculated(a, b, func(x, y interval) interval {
		return interval{x.low.plus(y.low), x.high.plus(y.high)}
	})
}

// plus adds two limits on the same side.
func (l limit) plus(m limit) limit {
	switch {
	case l.end != 0:
		return l
	case m.end != 0:
		return m
	}
	return limit{value: plus(l.value, m.value)}
}

// Times returns a type of the products of the objects of two types.
func Times(a, b api.Form) (api.Form, api.Errno) {
	return calculated(a, b, func(x, y interval) interval {
		first := x.low.times(y.low)
		z := interval{first, first}
		for _, p := range [...]limit{x.low.times(y.high), x.high.times(y.low), x.high.times(y.high)} {
			if p.below(z.low) {
				z.low = p
			}
			if z.high.below(p) {
				z.high = p
			}
		}
		return z
	})
}

// sign returns the sign of a limit.
func (l limit) sign() int {
	if l.end != 0 {
		return l.end
	}
	return compare(l.value, whole(0))
}

// times multiplies two limits. 0 times an end is 0: all products with 0 are.
func (l limit) times(m limit) limit {
	if l.end == 0 && m.end == 0 {
		product, _ := number.Mul(l.value, m.value)
		return limit{value: product}
	}
	sign := l.sign() * m.sign()
	if sign == 0 {
		return limit{value: whole(0)}
	}
	return limit{end: sign}
}

// below reports whether a limit is less than another one.
func (l limit) below(m limit) bool {
	if l.end != 0 || m.end != 0 {
		return l.end < m.end
	}
	return compare(l.value, m.value) < 0
}
