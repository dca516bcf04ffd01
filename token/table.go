package token

import (
	"cmp"
	"slices"
	"strings"
	"unicode/utf8"

	"commonform/api"
)

// Check returns the error of a readtable, or OK.
func Check(t Table) api.Errno {
	if len(t.Entries) > MaxEntries {
		return api.ErrSize
	}
	if t.Case < Upcase || t.Case > Invert {
		return api.ErrArg
	}
	for i, x := range t.Entries {
		switch {
		case !utf8.ValidRune(x.Char), !isKind(x.Kind), x.Kind == Standard(x.Char):
			return api.ErrArg
		case i > 0 && x.Char <= t.Entries[i-1].Char:
			return api.ErrOrder
		}
	}
	return api.OK
}

func isKind(kind int) bool { return kind >= Invalid && kind <= Multiple }

// Standard returns the standard kind of a character; Invalid for a rune that is none.
func Standard(c rune) int {
	switch {
	case !utf8.ValidRune(c):
		return Invalid
	case strings.ContainsRune("\t\n\f\r ", c):
		return White
	case strings.ContainsRune("\"'(),;`", c):
		return Terminating
	case c == '#':
		return Nonterminating
	case c == '\\':
		return Single
	case c == '|':
		return Multiple
	case c < 32 || c == 127:
		return Invalid
	}
	return Constituent
}

// find returns where the entry of a character is, or has to be put, and whether it is there.
func (t Table) find(c rune) (int, bool) {
	return slices.BinarySearchFunc(t.Entries, c, func(x Entry, c rune) int { return cmp.Compare(x.Char, c) })
}

// kind returns the kind of a character in a right readtable.
func (t Table) kind(c rune) int {
	if i, ok := t.find(c); ok {
		return t.Entries[i].Kind
	}
	return Standard(c)
}

// Kind returns the kind of a character.
func Kind(t Table, c rune) (int, api.Errno) {
	if e := Check(t); e != api.OK {
		return 0, e
	}
	if !utf8.ValidRune(c) {
		return 0, api.ErrArg
	}
	return t.kind(c), api.OK
}

// Set returns the readtable in which a character is of another kind.
func Set(t Table, c rune, kind int) (Table, api.Errno) {
	if e := Check(t); e != api.OK {
		return Table{}, e
	}
	if !utf8.ValidRune(c) || !isKind(kind) {
		return Table{}, api.ErrArg
	}
	entries := slices.Clone(t.Entries)
	i, there := t.find(c)
	if there {
		entries = slices.Delete(entries, i, i+1)
	}
	if kind != Standard(c) {
		entries = slices.Insert(entries, i, Entry{Char: c, Kind: kind})
	}
	if len(entries) > MaxEntries {
		return Table{}, api.ErrFull
	}
	return Table{Entries: entries, Case: t.Case}, api.OK
}

// least returns the character with the least code of a kind of which just one is a standard one, and whether there is any.
func (t Table) least(kind int, standard rune) (rune, bool) {
	found, ok := standard, t.kind(standard) == kind
	for _, x := range t.Entries {
		if x.Kind == kind && (!ok || x.Char < found) {
			found, ok = x.Char, true
		}
	}
	return found, ok
}
