package token

import (
	"iter"
	"strings"
	"unicode/utf8"

	"commonform/api"
)

// characters yields the characters of a text from a place on, and their places.
func characters(s string, at int) iter.Seq2[int, rune] {
	return func(yield func(int, rune) bool) {
		for i, c := range s[at:] {
			if !yield(at+i, c) {
				return
			}
		}
	}
}

// placeError returns the first error of a readtable, a text and a place in it.
func placeError(t Table, s string, at int) api.Errno {
	if e := Check(t); e != api.OK {
		return e
	}
	if e := textError(s); e != api.OK {
		return e
	}
	if !isPlace(s, at) {
		return api.ErrArg
	}
	return api.OK
}

// Skip returns the first place from a place on whose character is not White.
func Skip(t Table, s string, at int) (int, api.Errno) {
	if e := placeError(t, s, at); e != api.OK {
		return 0, e
	}
	for i, c := range characters(s, at) {
		if t.kind(c) != White {
			return i, api.OK
		}
	}
	return len(s), api.OK
}

// Next returns the token that begins at a place, and the place behind it.
func Next(t Table, s string, at int) (Token, int, api.Errno) {
	if e := placeError(t, s, at); e != api.OK {
		return Token{}, 0, e
	}
	if at == len(s) {
		return Token{}, 0, api.ErrNone
	}
	first, _ := utf8.DecodeRuneInString(s[at:])
	switch t.kind(first) {
	case White, Terminating, Nonterminating:
		return Token{}, 0, api.ErrArg
	}
	return t.scan(s, at)
}

// scan takes the characters of a token one by one.
func (t Table) scan(s string, at int) (Token, int, api.Errno) {
	var x Token
	add := func(c rune, escaped bool) {
		x.Chars = append(x.Chars, c)
		x.Escaped = append(x.Escaped, escaped)
	}
	single, multiple := false, false
	escape := func(kind int) {
		x.Escapes = true
		single = kind == Single
		multiple = multiple != (kind == Multiple)
	}
	end := len(s)
scanning:
	for i, c := range characters(s, at) {
		kind := t.kind(c)
		switch {
		case single:
			add(c, true)
			single = false
		case kind == Single || kind == Multiple:
			escape(kind)
		case multiple:
			add(c, true)
		case kind == White || kind == Terminating:
			end = i
			break scanning
		case kind == Invalid:
			return Token{}, 0, ErrInvalid
		default:
			add(c, false)
		}
	}
	if single || multiple {
		return Token{}, 0, api.ErrEnd
	}
	x.change(t.Case)
	return x, end, api.OK
}

// Plain returns the token with the characters of a text, none of them escaped.
func Plain(s string) (Token, api.Errno) {
	if e := textError(s); e != api.OK {
		return Token{}, e
	}
	return plain(s), api.OK
}

func plain(s string) Token {
	chars := []rune(s)
	return Token{Chars: chars, Escaped: make([]bool, len(chars))}
}

// Text returns the characters of a token; none if it is not right.
func Text(x Token) string {
	if !x.right() {
		return ""
	}
	return string(x.Chars)
}

// Dots returns how many dots a token consists of; 0 if it is something else.
func Dots(x Token) int {
	if !x.right() || x.Escapes {
		return 0
	}
	for _, c := range x.Chars {
		if c != '.' {
			return 0
		}
	}
	return len(x.Chars)
}

// Split returns the symbol that a token names.
func Split(x Token) (Name, api.Errno) {
	if !x.right() {
		return Name{}, api.ErrArg
	}
	if Dots(x) > 0 {
		return Name{}, ErrDots
	}
	markers, last := x.markers(), len(x.Chars)-1
	switch {
	case len(markers) == 0:
		return Name{Kind: Symbol, Name: string(x.Chars)}, api.OK
	case len(markers) == 1 && markers[0] == 0 && (last > 0 || x.Escapes):
		return Name{Kind: Keyword, Name: string(x.Chars[1:])}, api.OK
	case markers[0] == 0 || markers[len(markers)-1] == last:
		return Name{}, ErrMarker
	case len(markers) == 1:
		return x.divided(External, markers[0], markers[0]+1), api.OK
	case len(markers) == 2 && markers[1] == markers[0]+1:
		return x.divided(Internal, markers[0], markers[1]+1), api.OK
	}
	return Name{}, ErrMarker
}

// divided returns the name with the characters ahead of a marker as its package, and those from another one on as its own name.
func (x Token) divided(kind, ahead, behind int) Name {
	return Name{Kind: kind, Package: string(x.Chars[:ahead]), Name: string(x.Chars[behind:])}
}

// Where returns the line and the column of a place in a text.
func Where(s string, at int) (Place, api.Errno) {
	if e := textError(s); e != api.OK {
		return Place{}, e
	}
	if !isPlace(s, at) {
		return Place{}, api.ErrArg
	}
	line := s[:at]
	p := Place{Line: strings.Count(line, "\n") + 1, Column: 1}
	for range line[strings.LastIndex(line, "\n")+1:] {
		p.Column++
	}
	return p, api.OK
}
