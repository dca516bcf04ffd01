package heap

import (
	"unicode/utf8"

	"commonform/api"
)

// Word is a word: a fixnum, a character, a mark, or a reference to an object. Its lowest bits are its tag, the others its value.
type Word uint64

const (
	tagBits = 3
	tagMask = 1<<tagBits - 1
)

// Tags of words.
const (
	tagFixnum    = 0
	tagCharacter = 1
	tagReference = 3
)

// Unbound is the mark of what has no value; Nil is the reference to the first object, the symbol NIL.
const (
	Unbound Word = 2
	Nil     Word = tagReference
)

// maxFixnum is the greatest fixnum; the least one is below 0 by one more.
const maxFixnum = 1<<(63-tagBits) - 1

// Fix returns the fixnum n.
func Fix(n int64) (Word, api.Errno) {
	if n > maxFixnum || n < -maxFixnum-1 {
		return 0, api.ErrRange
	}
	return Word(n)<<tagBits | tagFixnum, api.OK
}

// Fixnum returns the value of a fixnum.
func (w Word) Fixnum() (int64, bool) {
	if w.tag() != tagFixnum {
		return 0, false
	}
	return int64(w) >> tagBits, true
}

// Char returns a character.
func Char(c rune) (Word, api.Errno) {
	if !utf8.ValidRune(c) {
		return 0, api.ErrRange
	}
	return Word(c)<<tagBits | tagCharacter, api.OK
}

// Character returns the code of a character.
func (w Word) Character() (rune, bool) {
	code := w >> tagBits
	if w.tag() != tagCharacter || code > utf8.MaxRune || !utf8.ValidRune(rune(code)) {
		return 0, false
	}
	return rune(code), true
}

// IsRef reports whether a word has the tag of references.
func (w Word) IsRef() bool { return w.tag() == tagReference }

func (w Word) tag() Word { return w & tagMask }

// place returns the place that a reference has; it is as far as an int goes only for references to objects.
func (w Word) place() int { return int(w >> tagBits) }

func reference(place int) Word { return Word(place)<<tagBits | tagReference }

// immediate reports whether a word is a fixnum, a character or Unbound.
func (w Word) immediate() bool {
	_, character := w.Character()
	return w.tag() == tagFixnum || w == Unbound || character
}
