package printer

import (
	"slices"
	"strconv"
	"strings"
	"unicode/utf8"

	"commonform/api"
	"commonform/forms"
	"commonform/token"
)

// Symbol returns the text of a symbol.
func Symbol(o Options, f api.Form) (string, api.Errno) {
	if e := Check(o); e != api.OK {
		return "", e
	}
	if f.Kind != api.FormSymbol {
		return "", api.ErrType
	}
	if e := forms.Check(f); e != api.OK {
		return "", e
	}
	return o.symbol(f)
}

func (o Options) symbol(f api.Form) (string, api.Errno) {
	if !o.Escape {
		return token.Back(o.Table, f.Text)
	}
	if f.Home == "" {
		text, e := token.Escaped(o.Table, f.Text, o.Base)
		if e != api.OK {
			return "", e
		}
		return "#:" + text, api.OK
	}
	name := token.Name{Kind: token.Internal, Package: f.Home, Name: f.Text}
	switch {
	case f.Home == "KEYWORD":
		name.Kind, name.Package = token.Keyword, ""
	case f.Home == o.Package || slices.Contains(o.Uses, f.Home):
		name.Kind, name.Package = token.Symbol, ""
	case slices.Contains(o.External, External{Home: f.Home, Name: f.Text}):
		name.Kind = token.External
	}
	return token.Written(o.Table, name, o.Base)
}

// Character returns the text of a character.
func Character(o Options, c rune) (string, api.Errno) {
	if e := Check(o); e != api.OK {
		return "", e
	}
	if !utf8.ValidRune(c) {
		return "", api.ErrArg
	}
	return o.character(c), api.OK
}

func (o Options) character(c rune) string {
	if !o.Escape {
		return string(c)
	}
	return "#\\" + characterName(c)
}

// characterName returns the name of a character: that itself, if it can be seen.
func characterName(c rune) string {
	switch c {
	case 0:
		return "Null"
	case 8:
		return "Backspace"
	case 9:
		return "Tab"
	case 10:
		return "Newline"
	case 12:
		return "Page"
	case 13:
		return "Return"
	case 32:
		return "Space"
	case 127:
		return "Rubout"
	}
	if c < 32 || c >= 128 && c <= 159 {
		digits := strings.ToUpper(strconv.FormatInt(int64(c), 16))
		return "U" + strings.Repeat("0", 4-len(digits)) + digits
	}
	return string(c)
}

// String returns the text of a string.
func String(o Options, s string) (string, api.Errno) {
	if e := Check(o); e != api.OK {
		return "", e
	}
	return o.quoted(s)
}

func (o Options) quoted(s string) (string, api.Errno) {
	if !utf8.ValidString(s) {
		return "", api.ErrForm
	}
	if o.Escape {
		quoted, ok := o.escaped(s)
		if !ok {
			return "", ErrReadable
		}
		s = quoted
	}
	if len(s) > maxText {
		return "", api.ErrLarge
	}
	return s, api.OK
}

// escaped returns a string between quotation marks; false, if a Single character is needed and there is none.
func (o Options) escaped(s string) (string, bool) {
	singles := singlesOf(o.Table)
	var b strings.Builder
	b.WriteByte('"')
	for _, c := range s {
		if c == '"' || slices.Contains(singles, c) {
			if len(singles) == 0 {
				return "", false
			}
			b.WriteRune(slices.Min(singles))
		}
		b.WriteRune(c)
	}
	b.WriteByte('"')
	return b.String(), true
}

// singlesOf returns the Single characters of a readtable.
func singlesOf(t token.Table) []rune {
	var l []rune
	if kind, _ := token.Kind(t, '\\'); kind == token.Single {
		l = append(l, '\\')
	}
	for _, x := range t.Entries {
		if x.Kind == token.Single {
			l = append(l, x.Char)
		}
	}
	return l
}
