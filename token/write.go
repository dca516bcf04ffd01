package token

import (
	"strings"

	"commonform/api"
)

// Potential reports whether a text may be a number.
func Potential(s string, base int) (bool, api.Errno) {
	if e := textError(s); e != api.OK {
		return false, e
	}
	if !isBase(base) {
		return false, api.ErrArg
	}
	return potential(s, base), api.OK
}

func isBase(base int) bool { return base >= 2 && base <= 36 }

// isDigit reports whether a character is a digit: those from 0 to 9 are digits in every base.
func isDigit(c rune, base int) bool {
	return '0' <= c && c <= '9' || isSmall(small(c)) && int(small(c)-'a')+10 < base
}

func potential(s string, base int) bool {
	digits, letter := 0, false // letter: whether the character ahead is a letter that is no digit
	for _, c := range characters(s, 0) {
		switch {
		case isDigit(c, base):
			digits++
			letter = false
		case strings.ContainsRune("+-/.^_", c):
			letter = false
		case isSmall(small(c)) && !letter:
			letter = true
		default:
			return false
		}
	}
	if digits == 0 {
		return false
	}
	begins := strings.IndexByte("+-.^_", s[0]) >= 0 || isDigit(rune(s[0]), base)
	return begins && !strings.HasSuffix(s, "+") && !strings.HasSuffix(s, "-")
}

// Back returns a name with its letters as they are to be read.
func Back(t Table, name string) (string, api.Errno) {
	if e := Check(t); e != api.OK {
		return "", e
	}
	if e := textError(name); e != api.OK {
		return "", e
	}
	x := plain(name)
	x.change(opposite(t.Case))
	return string(x.Chars), api.OK
}

// Escaped returns a text from which a token with the characters of a name is read.
func Escaped(t Table, name string, base int) (string, api.Errno) {
	text, e := Back(t, name)
	switch {
	case e != api.OK:
		return "", e
	case !isBase(base):
		return "", api.ErrArg
	case t.readsBare(text, name) && !potential(name, base):
		return text, api.OK
	}
	return t.barred(name)
}

// readsBare reports whether just a name is read from a text, without escapes, markers and dots.
func (t Table) readsBare(text, name string) bool {
	x, end, e := Next(t, text, 0)
	return e == api.OK && end == len(text) && !x.Escapes && Dots(x) == 0 && len(x.markers()) == 0 && string(x.Chars) == name
}

// barred returns a name between bars.
func (t Table) barred(name string) (string, api.Errno) {
	bar, ok := t.least(Multiple, '|')
	if !ok {
		return "", api.ErrNone
	}
	escape, ok := t.least(Single, '\\')
	var b strings.Builder
	b.WriteRune(bar)
	for _, c := range characters(name, 0) {
		if kind := t.kind(c); kind == Single || kind == Multiple {
			if !ok {
				return "", api.ErrNone
			}
			b.WriteRune(escape)
		}
		b.WriteRune(c)
	}
	b.WriteRune(bar)
	return b.String(), api.OK
}

// right reports whether a name has the parts that its kind needs, and no others.
func (n Name) right() bool {
	switch n.Kind {
	case Symbol, Keyword:
		return n.Package == ""
	case External, Internal:
		return n.Package != "" && n.Name != ""
	}
	return false
}

// Written returns the text of a symbol.
func Written(t Table, n Name, base int) (string, api.Errno) {
	if e := Check(t); e != api.OK {
		return "", e
	}
	if !n.right() {
		return "", api.ErrArg
	}
	text, e := n.joined(func(part string) (string, api.Errno) { return Escaped(t, part, base) })
	if e != api.OK {
		return "", e
	}
	if kind := t.kind(':'); n.Kind != Symbol && kind != Constituent && (kind != Nonterminating || n.Kind == Keyword) {
		return "", api.ErrNone
	}
	if t.readsAs(text, n) {
		return text, api.OK
	}
	// Invert looks at the letters of the package and of the name together
	return n.joined(t.barred)
}

// joined returns the package and the name, both written by a function, with the marker between them.
func (n Name) joined(write func(string) (string, api.Errno)) (string, api.Errno) {
	pack := ""
	if n.Package != "" {
		text, e := write(n.Package)
		if e != api.OK {
			return "", e
		}
		pack = text
	}
	name, e := write(n.Name)
	if e != api.OK {
		return "", e
	}
	return pack + [4]string{"", ":", ":", "::"}[n.Kind] + name, api.OK
}

// readsAs reports whether a symbol is read from a text.
func (t Table) readsAs(text string, n Name) bool {
	x, end, e := Next(t, text, 0)
	if e != api.OK || end != len(text) {
		return false
	}
	read, e := Split(x)
	return e == api.OK && read == n
}
