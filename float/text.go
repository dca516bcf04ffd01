package float

import (
	"strconv"
	"strings"

	"commonform/api"
	"commonform/integer"
	"commonform/rational"
)

// Places returns a fraction with so many decimal places.
func Places(x rational.Ratio, n int) (string, api.Errno) {
	if n < 0 || n > 400 {
		return "", api.ErrArg
	}
	q, _, _ := x.Mul(rational.Of(powerOfTen(n))).Quotient(rational.Round, rational.Of(integer.New(1)))
	text, _ := q.Abs().Text(10)
	text = strings.Repeat("0", max(0, n+1-len(text))) + text
	point := len(text) - n
	text = text[:point] + "." + text[point:]
	if q.Sign() < 0 {
		text = "-" + text
	}
	return text, api.OK
}

// decimal is a decimal text, taken apart: digits without the point, of which places stood behind it, and the power of ten.
type decimal struct {
	minus    bool
	digits   string
	places   int
	exponent int
}

// Read returns the float with a decimal text.
func Read(f Format, s string) (uint64, api.Errno) {
	if !f.right() {
		return 0, api.ErrArg
	}
	if len(s) > api.MaxDigits {
		return 0, api.ErrLarge
	}
	d, ok := takeApart(s)
	if !ok {
		return 0, api.ErrForm
	}
	return d.float(f)
}

func takeApart(s string) (decimal, bool) {
	d := decimal{minus: strings.HasPrefix(s, "-")}
	number, exponent := withoutSign(s), ""
	if i := strings.IndexAny(number, "eE"); i >= 0 {
		number, exponent = number[:i], number[i+1:]
		size := withoutSign(exponent)
		if size == "" || !allDigits(size) {
			return decimal{}, false
		}
		d.exponent = limited(size)
		if strings.HasPrefix(exponent, "-") {
			d.exponent = -d.exponent
		}
	}
	before, behind, _ := strings.Cut(number, ".")
	d.digits, d.places = before+behind, len(behind)
	return d, d.digits != "" && allDigits(d.digits)
}

func withoutSign(s string) string {
	if strings.HasPrefix(s, "+") || strings.HasPrefix(s, "-") {
		return s[1:]
	}
	return s
}

func allDigits(s string) bool {
	for i := range len(s) {
		if s[i] < '0' || s[i] > '9' {
			return false
		}
	}
	return true
}

// limited returns the number with digits, but at most 10^9: as an exponent this is as good as any greater one.
func limited(s string) int {
	n := 0
	for i := range len(s) {
		n = min(n*10+int(s[i]-'0'), 1e9)
	}
	return n
}

func (d decimal) float(f Format) (uint64, api.Errno) {
	digits := strings.TrimLeft(d.digits, "0")
	if digits == "" {
		return signed(f, d.minus), api.OK
	}
	power := d.exponent - d.places
	// the number lies from 10^(point-1) to 10^point
	point := len(digits) + power
	if point > 400 {
		return 0, api.ErrOver
	}
	if point < -400 {
		return signed(f, d.minus), api.OK
	}
	n, _ := integer.Parse(digits, 10)
	if power < 0 {
		return rounded(f, d.minus, n, powerOfTen(-power))
	}
	return rounded(f, d.minus, n.Mul(powerOfTen(power)), integer.New(1))
}

// Print returns the text of a float.
func Print(f Format, x uint64, usual Format) (string, api.Errno) {
	if !f.right() || !usual.right() {
		return "", api.ErrArg
	}
	digits, point, e := Shortest(f, x)
	if e != api.OK {
		return "", e
	}
	letter := "e"
	if f != usual {
		letter = [2]string{"f", "d"}[f]
	}
	text := pointed(digits, point)
	switch {
	// the first number from 10^-3 on has the point -2: so has 10^-3 itself in each format, where its digits are 1
	case digits != "0" && (point < -2 || point > 7):
		text = pointed(digits, 1) + letter + strconv.Itoa(point-1)
	case f != usual:
		text += letter + "0"
	}
	if negative(f, x) {
		text = "-" + text
	}
	return text, api.OK
}

// pointed returns the number 0.digits times 10^point, with at least one digit on each side of the point.
func pointed(digits string, point int) string {
	if point <= 0 {
		return "0." + strings.Repeat("0", -point) + digits
	}
	if point >= len(digits) {
		return digits + strings.Repeat("0", point-len(digits)) + ".0"
	}
	return digits[:point] + "." + digits[point:]
}
