package format

import (
	"strings"

	"commonform/api"
)

// Grouped returns digits with commas between groups of them.
func Grouped(digits string, comma string, interval int) (string, api.Errno) {
	if interval < 1 || interval > maxNumber {
		return "", api.ErrArg
	}
	sign := ""
	if strings.HasPrefix(digits, "-") || strings.HasPrefix(digits, "+") {
		sign, digits = digits[:1], digits[1:]
	}
	var groups []string
	for start := 0; start < len(digits); {
		end := start + (len(digits)-start-1)%interval + 1
		groups = append(groups, digits[start:end])
		start = end
	}
	return sign + strings.Join(groups, comma), api.OK
}

// Justified returns texts that are spread over a width.
func Justified(texts []string, width, step, least int, pad string, front, back bool) (string, api.Errno) {
	if len(texts) < 1 || len(texts) > maxTexts {
		return "", api.ErrSize
	}
	for _, s := range texts {
		if len(s) > api.MaxSource {
			return "", api.ErrSize
		}
	}
	switch {
	case len(pad) != 1 || step < 1 || step > maxNumber:
		return "", api.ErrArg
	case width < 0 || width > maxNumber || least < 0 || least > maxNumber:
		return "", api.ErrRange
	}
	// a gap stands ahead of each text, but perhaps of the first one, and perhaps behind the last one
	front = front || len(texts) == 1 && !back
	gaps := len(texts) - 1
	for _, more := range [...]bool{front, back} {
		if more {
			gaps++
		}
	}
	widths := gapWidths(texts, gaps, least, width, step)
	var line strings.Builder
	next := func() {
		line.WriteString(strings.Repeat(pad, widths[0]))
		widths = widths[1:]
	}
	for i, s := range texts {
		if i > 0 || front {
			next()
		}
		line.WriteString(s)
	}
	if back {
		next()
	}
	return line.String(), api.OK
}

// gapWidths returns the widths of the gaps between texts.
func gapWidths(texts []string, gaps, least, width, step int) []int {
	used := gaps * least
	for _, s := range texts {
		used += len(s)
	}
	left := enough(used, width, step) - used
	widths := make([]int, gaps)
	for i := range widths {
		widths[i] = least + left/gaps
		if i < left%gaps {
			widths[i]++
		}
	}
	return widths
}

// enough returns the least width that a number of steps makes so great that there is room for what is used.
func enough(used, width, step int) int {
	if used <= width {
		return width
	}
	return width + (used-width+step-1)/step*step
}

// Cased returns a text with letters changed.
func Cased(s string, colon, at bool) (string, api.Errno) {
	if len(s) > api.MaxOutput {
		return "", api.ErrSize
	}
	text := []byte(s)
	great := colon || at // whether the next letter becomes a great one
	for i, c := range text {
		switch {
		case !isLetter(c):
			great = great || colon && !isDigit(c)
			continue
		case great || colon && at:
			text[i] = c &^ ('a' - 'A')
		default:
			text[i] = c | ('a' - 'A')
		}
		great = false
	}
	return string(text), api.OK
}

func isLetter(c byte) bool { return c >= 'a' && c <= 'z' || c >= 'A' && c <= 'Z' }

func isDigit(c byte) bool { return c >= '0' && c <= '9' }
