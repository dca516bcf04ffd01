package rational

import (
	"strings"

	"commonform/api"
	"commonform/integer"
)

// Text returns the text of x.
func (x Ratio) Text(radix int) (string, api.Errno) {
	top, e := x.top.Text(radix)
	if e != api.OK || x.Whole() {
		return top, e
	}
	bottom, e := x.bottom.Text(radix)
	return top + "/" + bottom, e
}

// Parse returns the fraction with a text.
func Parse(s string, radix int) (Ratio, api.Errno) {
	switch {
	case radix < 2 || radix > 36:
		return Ratio{}, api.ErrArg
	case len(s) > api.MaxDigits:
		return Ratio{}, api.ErrLarge
	}
	before, behind, slash := strings.Cut(s, "/")
	n, e := integer.Parse(before, radix)
	if e != api.OK || !slash {
		return Of(n), e
	}
	if strings.HasPrefix(behind, "+") || strings.HasPrefix(behind, "-") {
		return Ratio{}, api.ErrForm
	}
	d, e := integer.Parse(behind, radix)
	if e != api.OK {
		return Ratio{}, e
	}
	return New(n, d)
}
