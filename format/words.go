package format

import (
	"strconv"
	"strings"

	"commonform/api"
	"commonform/number"
)

// maxWordDigits is the greatest number of digits of an integer in words.
const maxWordDigits = 24

// word returns the word of a number from 1 to 19.
func word(n int) string {
	return [...]string{"", "one", "two", "three", "four", "five", "six", "seven", "eight", "nine", "ten", "eleven", "twelve", "thirteen", "fourteen", "fifteen", "sixteen", "seventeen", "eighteen", "nineteen"}[n]
}

// tens returns the word of a number of tens from 2 to 9.
func tens(n int) string {
	return [...]string{2: "twenty", "thirty", "forty", "fifty", "sixty", "seventy", "eighty", "ninety"}[n]
}

// groupName returns the name of a group of three digits, counted from the last one.
func groupName(n int) string {
	return [...]string{"", "thousand", "million", "billion", "trillion", "quadrillion", "quintillion", "sextillion"}[n]
}

// groupWords returns the words of a number from 1 to 999.
func groupWords(n int) []string {
	var words []string
	if n >= 100 {
		words = append(words, word(n/100), "hundred")
	}
	switch n %= 100; {
	case n == 0:
	case n < 20:
		words = append(words, word(n))
	case n%10 == 0:
		words = append(words, tens(n/10))
	default:
		words = append(words, tens(n/10)+"-"+word(n%10))
	}
	return words
}

// isInteger reports whether a form is an integer that layer 5 takes.
func isInteger(x api.Form) bool { return x.Kind == api.FormInt && number.Check(x) == api.OK }

// Cardinal returns an integer in English words.
func Cardinal(x api.Form) (string, api.Errno) {
	if !isInteger(x) {
		return "", api.ErrType
	}
	digits := strings.TrimPrefix(x.Text, "-")
	if len(digits) > maxWordDigits {
		return "", api.ErrRange
	}
	if digits == "0" {
		return "zero", api.OK
	}
	var words []string
	if digits != x.Text {
		words = append(words, "minus")
	}
	for group := (len(digits) - 1) / 3; group >= 0; group-- {
		end := len(digits) - 3*group
		n, _ := strconv.Atoi(digits[max(0, end-3):end])
		if n == 0 {
			continue
		}
		words = append(words, groupWords(n)...)
		if group > 0 {
			words = append(words, groupName(group))
		}
	}
	return strings.Join(words, " "), api.OK
}

// Ordinal returns an integer as an English ordinal number.
func Ordinal(x api.Form) (string, api.Errno) {
	s, e := Cardinal(x)
	if e != api.OK {
		return "", e
	}
	last := strings.LastIndexAny(s, " -") + 1
	return s[:last] + ordinalWord(s[last:]), api.OK
}

func ordinalWord(s string) string {
	switch s {
	case "one":
		return "first"
	case "two":
		return "second"
	case "three":
		return "third"
	case "five":
		return "fifth"
	case "eight":
		return "eighth"
	case "nine":
		return "ninth"
	case "twelve":
		return "twelfth"
	}
	if stem, ok := strings.CutSuffix(s, "y"); ok {
		return stem + "ieth"
	}
	return s + "th"
}

// numeral is a Roman numeral with its value.
type numeral struct {
	value int
	text  string
	old   bool // one that the old numerals have, too
}

// Roman returns an integer in Roman numerals.
func Roman(x api.Form, old bool) (string, api.Errno) {
	if !isInteger(x) {
		return "", api.ErrType
	}
	most := 3999
	if old {
		most = 4999
	}
	n, failed := strconv.Atoi(x.Text)
	if failed != nil || n < 1 || n > most {
		return "", api.ErrRange
	}
	numerals := [...]numeral{
		{1000, "M", true}, {900, "CM", false}, {500, "D", true}, {400, "CD", false},
		{100, "C", true}, {90, "XC", false}, {50, "L", true}, {40, "XL", false},
		{10, "X", true}, {9, "IX", false}, {5, "V", true}, {4, "IV", false}, {1, "I", true},
	}
	text := ""
	for _, x := range numerals {
		for n >= x.value && (x.old || !old) {
			text += x.text
			n -= x.value
		}
	}
	return text, api.OK
}
