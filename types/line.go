package types

import (
	"slices"
	"strconv"
	"strings"

	"commonform/api"
	"commonform/float"
	"commonform/number"
)

// Ways of rounding (layer 3).
const (
	down = iota
	up
)

// rounded returns the integer to which a rational number is rounded.
func rounded(way int, x api.Form) api.Form {
	n, _, _ := number.Quotient(way, x, whole(1))
	return n
}

func plus(x, y api.Form) api.Form {
	sum, _ := number.Add(x, y)
	return sum
}

func compare(x, y api.Form) int {
	sign, _ := number.Cmp(x, y)
	return sign
}

// stretch is a part of the line of numbers that lies between two bounds: a single value, or all between two values.
type stretch struct{ low, high bound }

// line sorts the values at which types change, and returns them and what lies between them, in order. All numbers of one sort in a stretch are of the same types, but for 0 and -0.
func line(values []api.Form) []stretch {
	slices.SortFunc(values, compare)
	values = slices.CompactFunc(values, func(x, y api.Form) bool { return compare(x, y) == 0 })
	var l []stretch
	before := bound{}
	for _, v := range values {
		at := bound{some: true, open: true, value: v}
		l = append(l, stretch{before, at}, stretch{closed(v), closed(v)})
		before = at
	}
	return append(l, stretch{before, bound{}})
}

// single reports whether a stretch is a single value.
func (s stretch) single() bool { return s.low.some && !s.low.open }

// least returns the least integer of a stretch with a lower bound, and whether there is one.
func (s stretch) least() (api.Form, bool) {
	n := rounded(up, s.low.value)
	if !s.low.under(n) {
		n = plus(n, whole(1))
	}
	return n, s.high.above(n)
}

// greatest returns the greatest integer of a stretch with an upper bound, and whether there is one.
func (s stretch) greatest() (api.Form, bool) {
	n := rounded(down, s.high.value)
	if !s.high.above(n) {
		n = plus(n, whole(-1))
	}
	return n, s.low.under(n)
}

// integer returns an integer of a stretch, and whether there is one.
func (s stretch) integer() (api.Form, bool) {
	if s.low.some {
		return s.least()
	}
	return s.greatest()
}

// ratio returns a ratio of a stretch, and whether there is one.
func (s stretch) ratio() (api.Form, bool) {
	if s.single() {
		return s.low.value, s.low.value.Kind == api.FormRatio
	}
	// between a number and the next integer there is no other integer
	low, high := s.low.value, s.high.value
	if s.low.some {
		next := plus(rounded(down, low), whole(1))
		if !s.high.some || compare(next, high) < 0 {
			high = next
		}
	} else {
		low = plus(rounded(up, high), whole(-1))
	}
	middle, _ := number.Div(plus(low, high), whole(2))
	return middle, true
}

// Floats by their bits.
const (
	greatestSingle = 0x7f7fffff
	greatestDouble = 0x7fefffffffffffff
)

// floatForm returns the form of a float.
func floatForm(f float.Format, bits uint64) api.Form {
	kind, digits := api.FormSingle, 8
	if f == float.Double {
		kind, digits = api.FormDouble, 16
	}
	text := strconv.FormatUint(bits, 16)
	return api.Form{Kind: kind, Text: strings.Repeat("0", digits-len(text)) + text}
}

// floatOf returns a float of a stretch, and whether there is one.
func (s stretch) floatOf(f float.Format) (api.Form, bool) {
	x, there := leastFloat(f, s.low)
	return x, there && s.low.under(x) && s.high.above(x)
}

// leastFloat returns the least float above a bound, and whether there is one.
func leastFloat(f float.Format, low bound) (api.Form, bool) {
	greatest := [...]uint64{float.Single: greatestSingle, float.Double: greatestDouble}[f]
	lowest, _ := float.Neg(f, greatest)
	if !low.some {
		return floatForm(f, lowest), true
	}
	near, e := number.Float(low.value, floatForm(f, 0).Kind)
	if e != api.OK {
		// the bound is beyond the floats, on one side or the other
		return floatForm(f, lowest), compare(low.value, whole(0)) < 0
	}
	if low.under(near) {
		return near, true
	}
	bits, _ := strconv.ParseUint(near.Text, 16, 64)
	bits, e = float.Next(f, bits, true)
	return floatForm(f, bits), e == api.OK
}
