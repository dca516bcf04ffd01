package number

import (
	"strconv"
	"strings"

	"commonform/api"
	"commonform/float"
	"commonform/integer"
	"commonform/rational"
)

// reader reads the text of a token from a place on.
type reader struct {
	text string
	at   int
}

// sign takes a sign, if there is one.
func (r *reader) sign() { r.oneOf("+-") }

// oneOf takes a byte, if it is one of these, and returns it; 0 otherwise.
func (r *reader) oneOf(bytes string) byte {
	if r.at == len(r.text) || strings.IndexByte(bytes, r.text[r.at]) < 0 {
		return 0
	}
	r.at++
	return r.text[r.at-1]
}

// digits takes digits of a base, and returns their number.
func (r *reader) digits(base int) int {
	from := r.at
	for !r.ended() && isDigit(r.text[r.at:r.at+1], base) {
		r.at++
	}
	return r.at - from
}

func (r *reader) ended() bool { return r.at == len(r.text) }

// isDigit reports whether a byte alone is an integer: a sign alone is none.
func isDigit(c string, base int) bool {
	_, e := integer.Parse(c, base)
	return e == api.OK
}

// isRational reports whether the text is an integer or a ratio in a base.
func (r *reader) isRational(base int) bool {
	r.sign()
	if r.digits(base) == 0 {
		return false
	}
	if r.oneOf("/") != 0 && r.digits(base) == 0 {
		return false
	}
	return r.ended()
}

// isDecimal reports whether the text is an integer in the base 10 with a point.
func (r *reader) isDecimal() bool {
	r.sign()
	return r.digits(10) > 0 && r.oneOf(".") != 0 && r.ended()
}

// isFloat reports whether the text is a float; letter is that of its exponent, and place where it stands (0 and the end, if there is none).
func (r *reader) isFloat() (letter byte, place int, ok bool) {
	r.sign()
	before, behind := r.digits(10), 0
	if r.oneOf(".") != 0 {
		behind = r.digits(10)
	}
	place = r.at
	letter = r.oneOf("eEsSfFdDlL")
	if letter != 0 {
		r.sign()
		if r.digits(10) == 0 {
			return 0, 0, false
		}
	}
	return letter, place, r.ended() && (behind > 0 || before > 0 && letter != 0)
}

// Read returns the number of a token.
func Read(text string, base int, double bool) (api.Form, api.Errno) {
	switch {
	case base < 2 || base > 36:
		return api.Form{}, api.ErrArg
	case len(text) > api.MaxDigits:
		return api.Form{}, api.ErrLarge
	case (&reader{text: text}).isRational(base):
		x, e := rational.Parse(text, base)
		return finish(realValue(exactScalar(x)), e)
	case (&reader{text: text}).isDecimal():
		x, e := rational.Parse(strings.TrimSuffix(text, "."), 10)
		return finish(realValue(exactScalar(x)), e)
	}
	letter, place, ok := (&reader{text: text}).isFloat()
	if !ok {
		return api.Form{}, api.ErrForm
	}
	return readFloat(text[:place], text[place:], kindOf(letter, double))
}

// kindOf returns the kind that the letter of an exponent makes.
func kindOf(letter byte, doubles bool) int {
	switch letter {
	case 's', 'S', 'f', 'F':
		return single
	case 'd', 'D', 'l', 'L':
		return double
	}
	if doubles {
		return double
	}
	return single
}

func readFloat(digits, exponent string, kind int) (api.Form, api.Errno) {
	if exponent != "" {
		exponent = "e" + exponent[1:]
	}
	bits, e := float.Read(format(kind), digits+exponent)
	return finish(realValue(scalar{kind: kind, bits: bits}), e)
}

// Print returns the text of a number.
func Print(x api.Form, base int, radix, double bool) (string, api.Errno) {
	v, e := parse(x)
	switch {
	case e != api.OK:
		return "", e
	case base < 2 || base > 36:
		return "", api.ErrArg
	case !v.pair:
		return v.parts[0].text(base, radix, double), api.OK
	}
	return "#C(" + v.parts[0].text(base, radix, double) + " " + v.parts[1].text(base, radix, double) + ")", api.OK
}

func (s scalar) text(base int, radix, doubles bool) string {
	if s.kind != exact {
		usual := float.Single
		if doubles {
			usual = float.Double
		}
		text, _ := float.Print(format(s.kind), s.bits, usual)
		return text
	}
	text, _ := s.ratio.Text(base)
	switch {
	case !radix:
		return text
	case base == 10 && s.ratio.Whole():
		return text + "."
	}
	return prefix(base) + text
}

// prefix returns what tells a base.
func prefix(base int) string {
	switch base {
	case 2:
		return "#b"
	case 8:
		return "#o"
	case 16:
		return "#x"
	}
	return "#" + strconv.Itoa(base) + "r"
}
