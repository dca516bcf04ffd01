// Package number has the tower of numbers: integers, fractions, floats of two formats, and complex numbers, as data.
package number

import (
	"strconv"
	"strings"

	"commonform/api"
	"commonform/float"
	"commonform/integer"
	"commonform/rational"
)

// Kinds of real numbers, in the order of contagion.
const (
	exact = iota // an integer or a ratio
	single
	double
)

// scalar is a real number.
type scalar struct {
	kind  int
	ratio rational.Ratio // the value, if it is exact
	bits  uint64         // of a float
}

// value is a number: the real and the imaginary part; of a real number the second one is the integer 0.
type value struct {
	parts [2]scalar
	pair  bool // a FormComplex
}

func format(kind int) float.Format { return float.Format(kind - single) }

// Check returns the error of a number, or OK.
func Check(x api.Form) api.Errno {
	_, e := parse(x)
	return e
}

// parse returns the number of a form, or the error of a number.
func parse(x api.Form) (value, api.Errno) {
	if x.Kind < api.FormInt || x.Kind > api.FormComplex {
		return value{}, api.ErrType
	}
	if tooLong(x) {
		return value{}, api.ErrLarge
	}
	if x.Kind != api.FormComplex {
		s, ok := parseScalar(x)
		if !ok {
			return value{}, api.ErrForm
		}
		return realValue(s), api.OK
	}
	if x.Text != "" || x.Home != "" || len(x.Kids) != 2 {
		return value{}, api.ErrForm
	}
	v := value{pair: true}
	for i := range v.parts {
		s, ok := parseScalar(x.Kids[i])
		if !ok {
			return value{}, api.ErrForm
		}
		v.parts[i] = s
	}
	a, b := v.parts[0], v.parts[1]
	if a.kind != b.kind || b.kind == exact && b.ratio.Sign() == 0 {
		return value{}, api.ErrForm
	}
	return v, api.OK
}

func tooLong(x api.Form) bool {
	if len(x.Text) > api.MaxDigits {
		return true
	}
	for _, kid := range x.Kids {
		if len(kid.Text) > api.MaxDigits {
			return true
		}
	}
	return false
}

// parseScalar returns the real number of a form, and whether it is one.
func parseScalar(x api.Form) (scalar, bool) {
	if x.Home != "" || len(x.Kids) > 0 {
		return scalar{}, false
	}
	switch x.Kind {
	case api.FormInt:
		n, ok := parseInteger(x.Text)
		return exactScalar(rational.Of(n)), ok
	case api.FormRatio:
		return parseRatio(x.Text)
	case api.FormSingle:
		return parseFloat(x.Text, single)
	case api.FormDouble:
		return parseFloat(x.Text, double)
	}
	return scalar{}, false
}

// parseInteger returns the integer with a text, and whether it is just the text of an integer.
func parseInteger(s string) (integer.Int, bool) {
	digits := strings.TrimPrefix(s, "-")
	if s != "0" && (digits == "" || digits[0] == '0' || digits[0] == '+') {
		return integer.Int{}, false
	}
	n, e := integer.Parse(s, 10)
	return n, e == api.OK
}

// parseRatio returns the ratio with a text, and whether it is just the text of a fraction that is no integer.
func parseRatio(s string) (scalar, bool) {
	top, bottom, _ := strings.Cut(s, "/")
	n, ok := parseInteger(top)
	if !ok {
		return scalar{}, false
	}
	d, ok := parseInteger(bottom)
	if !ok || d.Cmp(integer.New(1)) <= 0 {
		return scalar{}, false
	}
	x, _ := rational.New(n, d)
	return exactScalar(x), x.Denominator().Cmp(d) == 0
}

func parseFloat(text string, kind int) (scalar, bool) {
	if len(text) != hexDigits(kind) {
		return scalar{}, false
	}
	for i := range len(text) {
		if !strings.Contains("0123456789abcdef", text[i:i+1]) {
			return scalar{}, false
		}
	}
	bits, _ := strconv.ParseUint(text, 16, 64)
	_, e := float.Value(format(kind), bits)
	return scalar{kind: kind, bits: bits}, e == api.OK
}

func hexDigits(kind int) int { return [3]int{0, 8, 16}[kind] }

// form returns the form of a number.
func (v value) form() (api.Form, api.Errno) {
	if !v.pair {
		return v.parts[0].form()
	}
	re, e := v.parts[0].form()
	if e != api.OK {
		return api.Form{}, e
	}
	im, e := v.parts[1].form()
	if e != api.OK {
		return api.Form{}, e
	}
	return api.Form{Kind: api.FormComplex, Kids: []api.Form{re, im}}, api.OK
}

// form returns the form of a real number; ErrLarge if its text is too long.
func (s scalar) form() (api.Form, api.Errno) {
	if s.kind != exact {
		text := strconv.FormatUint(s.bits, 16)
		text = strings.Repeat("0", hexDigits(s.kind)-len(text)) + text
		return api.Form{Kind: api.FormSingle + s.kind - single, Text: text}, api.OK
	}
	text, _ := s.ratio.Text(10)
	if len(text) > api.MaxDigits {
		return api.Form{}, api.ErrLarge
	}
	if s.ratio.Whole() {
		return api.Form{Kind: api.FormInt, Text: text}, api.OK
	}
	return api.Form{Kind: api.FormRatio, Text: text}, api.OK
}

// finish returns the form of a number that was calculated with an error or without one.
func finish(v value, e api.Errno) (api.Form, api.Errno) {
	if e != api.OK {
		return api.Form{}, e
	}
	return v.form()
}

// parseBoth returns two numbers; the first error.
func parseBoth(x, y api.Form) (v, w value, e api.Errno) {
	v, e = parse(x)
	if e != api.OK {
		return value{}, value{}, e
	}
	w, e = parse(y)
	if e != api.OK {
		return value{}, value{}, e
	}
	return v, w, api.OK
}

// parseReal returns a real number; ErrType for a complex one.
func parseReal(x api.Form) (scalar, api.Errno) {
	v, e := parse(x)
	if e != api.OK {
		return scalar{}, e
	}
	if v.pair {
		return scalar{}, api.ErrType
	}
	return v.parts[0], api.OK
}

// parseReals returns two real numbers: first the errors of both, then ErrType.
func parseReals(x, y api.Form) (s, t scalar, e api.Errno) {
	v, w, e := parseBoth(x, y)
	if e != api.OK {
		return scalar{}, scalar{}, e
	}
	if v.pair || w.pair {
		return scalar{}, scalar{}, api.ErrType
	}
	return v.parts[0], w.parts[0], api.OK
}
