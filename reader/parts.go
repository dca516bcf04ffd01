package reader

import (
	"iter"
	"slices"
	"strconv"
	"strings"
	"unicode/utf8"

	"commonform/api"
	"commonform/forms"
)

// Character returns the character with a name.
func Character(name string) (rune, bool) {
	switch strings.Map(small, name) {
	case "null":
		return 0, true
	case "backspace":
		return 8, true
	case "tab":
		return 9, true
	case "newline", "linefeed":
		return 10, true
	case "page":
		return 12, true
	case "return":
		return 13, true
	case "space":
		return 32, true
	case "rubout":
		return 127, true
	}
	return coded(name)
}

// small changes great letters; those outside ASCII have no case here.
func small(c rune) rune {
	if 'A' <= c && c <= 'Z' {
		return c + 'a' - 'A'
	}
	return c
}

// coded returns the character of a U and its number.
func coded(name string) (rune, bool) {
	if len(name) < 5 || len(name) > 7 || name[0] != 'U' && name[0] != 'u' {
		return 0, false
	}
	digits := name[1:]
	if strings.Trim(digits, "0123456789abcdefABCDEF") != "" {
		return 0, false
	}
	n, _ := strconv.ParseInt(digits, 16, 32)
	if !utf8.ValidRune(rune(n)) {
		return 0, false
	}
	return rune(n), true
}

// Feature reports whether features fulfil an expression.
func Feature(f api.Form, features []string) (bool, api.Errno) {
	set := map[string]bool{}
	for _, name := range features {
		set[name] = true
	}
	return fulfilled(f, func(name string) bool { return set[name] })
}

func fulfilled(f api.Form, has func(string) bool) (bool, api.Errno) {
	if f.Kind == api.FormSymbol && f.Home == keyword && len(f.Kids) == 0 {
		return has(f.Text), api.OK
	}
	l, ok := items(f)
	if !ok || len(l) == 0 {
		return false, api.ErrForm
	}
	all, some := true, false
	for _, x := range l[1:] {
		there, e := fulfilled(x, has)
		if e != api.OK {
			return false, e
		}
		all, some = all && there, some || there
	}
	switch {
	case forms.Is(l[0], keyword, "NOT") && len(l) == 2:
		return !all, api.OK
	case forms.Is(l[0], keyword, "AND"):
		return all, api.OK
	case forms.Is(l[0], keyword, "OR"):
		return some, api.OK
	}
	return false, api.ErrForm
}

// maxDimension is the greatest dimension of an array.
const maxDimension = 2000

// Array returns the array with given contents.
func Array(rank int, contents api.Form) (api.Form, api.Errno) {
	if e := forms.Check(contents); e == api.ErrSize || e == api.ErrForm {
		return api.Form{}, e
	}
	if rank < 0 || rank > forms.MaxRank {
		return api.Form{}, api.ErrArg
	}
	dimensions, ok := shape(rank, contents)
	if !ok {
		return api.Form{}, ErrShape
	}
	if tooMany(dimensions) {
		return api.Form{}, api.ErrSize
	}
	f := api.Form{Kind: api.FormArray, Kids: leaves(rank, contents)}
	if rank == 1 {
		f.Kind = api.FormVector
		return f, api.OK
	}
	var words []string
	for _, n := range dimensions {
		words = append(words, strconv.Itoa(n))
	}
	f.Text = strings.Join(words, " ")
	return f, api.OK
}

// parts yields the elements of contents; false, if these can have none.
func parts(f api.Form) (iter.Seq[api.Form], bool) {
	switch f.Kind {
	case api.FormString, api.FormBits:
		kind := api.FormChar
		if f.Kind == api.FormBits {
			kind = api.FormInt
		}
		return func(yield func(api.Form) bool) {
			for _, c := range f.Text {
				if !yield(api.Form{Kind: kind, Text: string(c)}) {
					return
				}
			}
		}, true
	case api.FormVector:
		return slices.Values(f.Kids), true
	}
	l, ok := items(f)
	return slices.Values(l), ok
}

// shape returns the dimensions of contents; false, if these do not fit.
func shape(rank int, f api.Form) ([]int, bool) {
	if rank == 0 {
		return nil, true
	}
	l, ok := parts(f)
	if !ok {
		return nil, false
	}
	dimensions := make([]int, rank)
	for x := range l {
		inner, ok := shape(rank-1, x)
		if !ok || dimensions[0] > 0 && !slices.Equal(inner, dimensions[1:]) {
			return nil, false
		}
		dimensions[0]++
		copy(dimensions[1:], inner)
	}
	return dimensions, true
}

// tooMany reports whether an array would be too large.
func tooMany(dimensions []int) bool {
	product := 1
	for _, n := range dimensions {
		if n > maxDimension {
			return true
		}
		product = min(product*n, api.MaxForm+1)
	}
	return product > api.MaxForm
}

// leaves returns the elements of an array in row-major order.
func leaves(rank int, f api.Form) []api.Form {
	if rank == 0 {
		return []api.Form{copied(f)}
	}
	var all []api.Form
	l, _ := parts(f)
	for x := range l {
		all = append(all, leaves(rank-1, x)...)
	}
	return all
}
