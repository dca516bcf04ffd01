package format

import (
	"strings"

	"commonform/api"
	"commonform/float"
	"commonform/forms"
	"commonform/integer"
	"commonform/number"
	"commonform/printer"
	"commonform/rational"
)

// shown returns the text of an argument.
func shown(x api.Form, escape bool) string {
	text, e := printer.Text(x, escape)
	if e != api.OK {
		fail(api.ErrForm)
	}
	return text
}

// pads returns the pads that a text needs.
func pads(pad, text string, width int) string {
	return strings.Repeat(pad, max(0, width-len(text)))
}

func (r *run) plain(d directive, s scene) int { return s.datum(d, false) }

func (r *run) escaped(d directive, s scene) int { return s.datum(d, true) }

// datum puts out an argument of any kind.
func (s scene) datum(d directive, escape bool) int {
	v := s.values(d, wantNumber(), wantSteps(), wantNumber(), wantCharacter())
	x := s.args.take()
	text := ""
	if d.colon && forms.IsNil(x) {
		text = "()"
	} else {
		text = shown(x, escape)
	}
	width, step, n := v[0].or(0), v[1].or(1), v[2].or(0)
	for len(text)+n < width {
		n += step
	}
	pad := strings.Repeat(v[3].text(' '), n)
	if d.at {
		text = pad + text
	} else {
		text += pad
	}
	s.out.put(text)
	return goesOn
}

func (r *run) decimal(d directive, s scene) int { return s.whole(d, 10, s.wholeValues(d)) }

func (r *run) binary(d directive, s scene) int { return s.whole(d, 2, s.wholeValues(d)) }

func (r *run) octal(d directive, s scene) int { return s.whole(d, 8, s.wholeValues(d)) }

func (r *run) hexadecimal(d directive, s scene) int { return s.whole(d, 16, s.wholeValues(d)) }

func (s scene) wholeValues(d directive) []value {
	return s.values(d, wantNumber(), wantCharacter(), wantCharacter(), wantSteps())
}

// whole puts out an integer in digits; v has the width, the pad, the comma and the interval.
func (s scene) whole(d directive, radix int, v []value) int {
	x := s.args.take()
	text := ""
	if x.Kind == api.FormInt {
		text = digits(x, radix)
		if d.at && !strings.HasPrefix(text, "-") {
			text = "+" + text
		}
		if d.colon {
			text, _ = Grouped(text, v[2].text(','), v[3].or(3))
		}
	} else {
		text = shown(x, false)
	}
	s.out.put(pads(v[1].text(' '), text, v[0].or(0)) + text)
	return goesOn
}

func digits(x api.Form, radix int) string {
	text, e := number.Print(x, radix, false, false)
	if e != api.OK {
		fail(api.ErrType)
	}
	return text
}

// radix puts out an integer in any radix, or in words.
func (r *run) radix(d directive, s scene) int {
	if len(d.params) > 0 {
		v := s.values(d, wantBetween(2, 36), wantNumber(), wantCharacter(), wantCharacter(), wantSteps())
		return s.whole(d, v[0].or(10), v[1:])
	}
	x := s.args.take()
	text, e := "", api.OK
	switch {
	case d.at:
		text, e = Roman(x, d.colon)
	case d.colon:
		text, e = Ordinal(x)
	default:
		text, e = Cardinal(x)
	}
	if e != api.OK {
		fail(e)
	}
	s.out.put(text)
	return goesOn
}

func (r *run) character(d directive, s scene) int {
	x := s.args.take()
	if x.Kind != api.FormChar {
		fail(api.ErrType)
	}
	text := x.Text
	switch {
	case d.at:
		text = shown(x, true)
	case d.colon:
		text = characterName(text)
	}
	s.out.put(text)
	return goesOn
}

// characterName returns the name of a character, or the character itself.
func characterName(text string) string {
	switch text {
	case " ":
		return "Space"
	case "\n":
		return "Newline"
	case "\t":
		return "Tab"
	case "\f":
		return "Page"
	case "\x7f":
		return "Rubout"
	case "\b":
		return "Backspace"
	case "\r":
		return "Return"
	case "\x00":
		return "Null"
	}
	return text
}

func (r *run) plural(d directive, s scene) int {
	if d.colon {
		s.args.move(s.args.next - 1)
	}
	x := s.args.take()
	one := x.Kind == api.FormInt && x.Text == "1"
	endings := [...]string{"s", ""}
	if d.at {
		endings = [...]string{"ies", "y"}
	}
	if one {
		s.out.put(endings[1])
	} else {
		s.out.put(endings[0])
	}
	return goesOn
}

// realValue returns the exact value of a real number.
func realValue(x api.Form) rational.Ratio {
	exact, e := number.Rational(x)
	if e != api.OK {
		fail(api.ErrType)
	}
	value, _ := rational.Parse(exact.Text, 10)
	return value
}

// fixed puts out a real number with a point.
func (r *run) fixed(d directive, s scene) int {
	v := s.values(d, wantNumber(), wantBetween(0, 100), wantBetween(-100, 100), wantCharacter(), wantCharacter())
	x := s.args.take()
	ten, _ := rational.Of(integer.New(10)).Power(v[2].or(0))
	scaled := realValue(x).Mul(ten)
	text := ""
	if v[1].given {
		text, _ = float.Places(scaled, v[1].n)
	} else {
		text = nearestText(scaled, x.Kind)
	}
	if d.at && !strings.HasPrefix(text, "-") {
		text = "+" + text
	}
	width := v[0].or(0)
	if width > 0 && len(text) > width {
		text = withoutZero(text)
		if v[3].given && len(text) > width {
			text = strings.Repeat(v[3].text(' '), width)
		}
	}
	s.out.put(pads(v[4].text(' '), text, width) + text)
	return goesOn
}

// nearestText returns the text of the float that is nearest to a number, of the format of a kind of numbers.
func nearestText(x rational.Ratio, kind int) string {
	format := float.Single
	if kind == api.FormDouble {
		format = float.Double
	}
	bits, e := float.Nearest(format, x)
	if e != api.OK {
		fail(api.ErrRange)
	}
	digits, point, _ := float.Shortest(format, bits)
	text := pointed(digits, point)
	if x.Sign() < 0 && digits != "0" {
		text = "-" + text
	}
	return text
}

// pointed returns the number 0.digits times 10^point, with at least one digit on each side of the point.
func pointed(digits string, point int) string {
	if point <= 0 {
		return "0." + strings.Repeat("0", -point) + digits
	}
	if point >= len(digits) {
		return digits + strings.Repeat("0", point-len(digits)) + ".0"
	}
	return digits[:point] + "." + digits[point:]
}

// withoutZero returns a number without a 0 that stands alone in front of the point, if there is a digit behind it.
func withoutZero(text string) string {
	sign := strings.TrimRight(text, "0123456789.")
	size := strings.TrimPrefix(text, sign)
	if strings.HasPrefix(size, "0.") && len(size) > len("0.") {
		return sign + size[1:]
	}
	return text
}

// money puts out a real number with a fixed number of places.
func (r *run) money(d directive, s scene) int {
	v := s.values(d, wantBetween(0, 100), wantBetween(0, 100), wantNumber(), wantCharacter())
	text, _ := float.Places(realValue(s.args.take()), v[0].or(2))
	sign := ""
	if strings.HasPrefix(text, "-") {
		sign, text = "-", text[1:]
	} else if d.at {
		sign = "+"
	}
	text = strings.Repeat("0", max(0, v[1].or(1)-strings.IndexByte(text, '.'))) + text
	pad := pads(v[3].text(' '), sign+text, v[2].or(0))
	if d.colon {
		s.out.put(sign + pad + text)
	} else {
		s.out.put(pad + sign + text)
	}
	return goesOn
}
