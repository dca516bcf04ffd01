package integer

import (
	"slices"

	"commonform/api"
)

const digitLetters = "0123456789ABCDEFGHIJKLMNOPQRSTUVWXYZ"

// group returns how many digits of a radix fit into one limb, and the radix to this power.
func group(radix int) (count int, power uint32) {
	p := uint64(1)
	for p*uint64(radix) < 1<<32 {
		p *= uint64(radix)
		count++
	}
	return count, uint32(p)
}

// Text returns the digits of x.
func (x Int) Text(radix int) (string, api.Errno) {
	if radix < 2 || radix > 36 {
		return "", api.ErrArg
	}
	if x.Sign() == 0 {
		return "0", api.OK
	}
	text := digits(clone(x.limbs), uint32(radix))
	for text[len(text)-1] == '0' {
		text = text[:len(text)-1]
	}
	if x.negative {
		text = append(text, '-')
	}
	slices.Reverse(text)
	return string(text), api.OK
}

// digits returns the digits of a, whose memory it uses, the last one first, with zeros behind.
func digits(a []uint32, radix uint32) []byte {
	var text []byte
	count, power := group(int(radix))
	for len(a) > 0 {
		rest := uint32(0)
		a, rest = divideSmall(a, power)
		for range count {
			text = append(text, digitLetters[rest%radix])
			rest /= radix
		}
	}
	return text
}

// Parse returns the integer with digits.
func Parse(s string, radix int) (Int, api.Errno) {
	switch {
	case radix < 2 || radix > 36:
		return Int{}, api.ErrArg
	case len(s) > api.MaxDigits:
		return Int{}, api.ErrLarge
	}
	negative := s != "" && s[0] == '-'
	if negative || s != "" && s[0] == '+' {
		s = s[1:]
	}
	limbs, ok := number(s, radix)
	if !ok {
		return Int{}, api.ErrForm
	}
	return wrap(negative, limbs), api.OK
}

// number returns the number with one or more digits.
func number(s string, radix int) ([]uint32, bool) {
	count, _ := group(radix)
	var limbs []uint32
	power, part := uint32(1), uint32(0)
	for i := range len(s) {
		digit := digitValue(s[i])
		if digit >= radix {
			return nil, false
		}
		power, part = power*uint32(radix), part*uint32(radix)+uint32(digit)
		if i%count == count-1 {
			limbs = addTo(limbs, power, part)
			power, part = 1, 0
		}
	}
	return addTo(limbs, power, part), s != ""
}

// digitValue returns the value of a digit in the greatest radix; 36 for a byte that is no digit.
func digitValue(c byte) int {
	switch {
	case c >= '0' && c <= '9':
		return int(c - '0')
	case c >= 'A' && c <= 'Z':
		return int(c-'A') + 10
	case c >= 'a' && c <= 'z':
		return int(c-'a') + 10
	}
	return 36
}
