package forms

import (
	"math"
	"strings"
	"unicode/utf8"

	"commonform/api"
)

// Check returns the error of a form, or OK.
func Check(f api.Form) api.Errno {
	if tooLarge(f) {
		return api.ErrSize
	}
	for _, node := range walk(f) {
		if !rightNode(node) {
			return api.ErrForm
		}
	}
	return labelError(f)
}

// tooLarge reports whether a tree has too many nodes, or is too deep.
func tooLarge(f api.Form) bool {
	nodes := 0
	large := false
walking:
	for depth := range walk(f) {
		nodes++
		switch {
		case nodes > api.MaxForm, depth > api.MaxDepth:
			large = true
			break walking
		}
	}
	return large
}

// rightNode reports whether a node is as the table of forms says; what its Kids are matters only where the table tells it.
func rightNode(f api.Form) bool {
	switch f.Kind {
	case api.FormCons:
		last := len(f.Kids) - 1
		return f.Text == "" && f.Home == "" && last >= 1 && f.Kids[last].Kind != api.FormCons
	case api.FormComplex:
		return rightTexts(f.Kind, f.Text, f.Home, len(f.Kids)) && rightParts(f.Kids[0].Kind, f.Kids[1].Kind, f.Kids[1].Text)
	case api.FormLabel:
		return f.Home == "" && rightLabel(f.Text) && len(f.Kids) == 1
	case api.FormRef:
		return f.Home == "" && rightLabel(f.Text) && len(f.Kids) == 0
	}
	return rightTexts(f.Kind, f.Text, f.Home, len(f.Kids))
}

// rightTexts reports whether the Text, the Home and the number of parts fit to the kind of an object. (A cons has two parts.)
func rightTexts(kind int, text, home string, parts int) bool {
	if !utf8.ValidString(text) || !utf8.ValidString(home) || home != "" && kind != api.FormSymbol {
		return false
	}
	switch kind {
	case api.FormCons, api.FormComplex:
		return text == "" && parts == 2
	case api.FormVector:
		return text == ""
	case api.FormArray:
		dimensions, ok := dimensionsOf(text)
		return ok && product(dimensions) == parts
	}
	return parts == 0 && rightAtom(kind, text)
}

// rightAtom reports whether a text fits to a kind of objects without parts.
func rightAtom(kind int, text string) bool {
	switch kind {
	case api.FormSymbol, api.FormString:
		return true
	case api.FormInt:
		return rightInteger(text)
	case api.FormRatio:
		return rightRatio(text)
	case api.FormSingle:
		return len(text) == 8 && consistsOf(text, "0123456789abcdef")
	case api.FormDouble:
		return len(text) == 16 && consistsOf(text, "0123456789abcdef")
	case api.FormChar:
		return utf8.RuneCountInString(text) == 1
	case api.FormBits:
		return consistsOf(text, "01")
	}
	return false
}

// rightParts reports whether the real and the imaginary part of a complex number, of which the second one has a text, may be together.
func rightParts(real, imaginary int, text string) bool {
	switch real {
	case api.FormSingle, api.FormDouble:
		return imaginary == real
	case api.FormInt, api.FormRatio:
		return imaginary == api.FormInt && text != "0" || imaginary == api.FormRatio
	}
	return false
}

func consistsOf(text, bytes string) bool {
	for i := range len(text) {
		if strings.IndexByte(bytes, text[i]) < 0 {
			return false
		}
	}
	return true
}

// rightNatural reports whether a text has decimal digits, without a leading zero.
func rightNatural(text string) bool {
	return text != "" && consistsOf(text, "0123456789") && (text[0] != '0' || text == "0")
}

func rightInteger(text string) bool {
	return rightNatural(strings.TrimPrefix(text, "-")) && text != "-0"
}

func rightRatio(text string) bool {
	top, bottom, _ := strings.Cut(text, "/")
	if !rightInteger(top) || top == "0" || !rightNatural(bottom) || bottom == "0" || bottom == "1" {
		return false
	}
	size := strings.TrimPrefix(top, "-")
	if len(size) > 18 || len(bottom) > 18 {
		return true
	}
	a, b := natural(size), natural(bottom)
	for b > 0 {
		a, b = b, a%b
	}
	return a == 1
}

// natural returns the number with at most 18 decimal digits.
func natural(digits string) int {
	n := 0
	for i := range len(digits) {
		n = n*10 + int(digits[i]-'0')
	}
	return n
}

// rightLabel reports whether a text is that of a label.
func rightLabel(text string) bool { return rightNatural(text) && len(text) <= 3 }

// dimensionsOf returns the dimensions of an array, and whether its text is right.
func dimensionsOf(text string) ([]int, bool) {
	var dimensions []int
	if text == "" {
		return nil, true
	}
	for _, word := range strings.Split(text, " ") {
		if !rightNatural(word) || len(word) > 4 || natural(word) > 2000 {
			return nil, false
		}
		dimensions = append(dimensions, natural(word))
	}
	return dimensions, len(dimensions) != 1 && len(dimensions) <= MaxRank
}

// product returns the number of elements of an array; if there are more than can be, any number that is as great.
func product(dimensions []int) int {
	n := 1
	for _, d := range dimensions {
		if d == 0 {
			return 0
		}
		n = min(n*d, math.MaxInt32+1)
	}
	return n
}

// label is what is known of a FormLabel.
type label struct {
	kid  api.Form
	node int // the node of its object, in a graph
}

// labelError returns the first error of labels and references, in the order of the walk.
func labelError(f api.Form) api.Errno {
	met := map[string]label{}
	for _, node := range walk(f) {
		_, known := met[node.Text]
		switch {
		case node.Kind == api.FormLabel && known:
			return api.ErrTwice
		case node.Kind == api.FormLabel && (node.Kids[0].Kind == api.FormRef || node.Kids[0].Kind == api.FormLabel):
			return ErrLabel
		case node.Kind == api.FormLabel:
			met[node.Text] = label{kid: node.Kids[0]}
		case node.Kind == api.FormRef && !known:
			return ErrLabel
		}
	}
	return api.OK
}

// Dimensions returns the dimensions of an array.
func Dimensions(f api.Form) ([]int, api.Errno) {
	if f.Kind != api.FormArray && f.Kind != api.FormVector && f.Kind != api.FormString && f.Kind != api.FormBits {
		return nil, api.ErrArg
	}
	if e := Check(f); e != api.OK {
		return nil, e
	}
	switch f.Kind {
	case api.FormArray:
		dimensions, _ := dimensionsOf(f.Text)
		return dimensions, api.OK
	case api.FormVector:
		return []int{len(f.Kids)}, api.OK
	case api.FormString:
		return []int{utf8.RuneCountInString(f.Text)}, api.OK
	}
	return []int{len(f.Text)}, api.OK
}
