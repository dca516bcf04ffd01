package table

import (
	"commonform/api"
	"commonform/heap"
	"commonform/number"
)

// hashDepth is how deep a hash looks into conses.
const hashDepth = 4

// What hashes of different sorts of words begin with.
const (
	hashWord = iota + 1
	hashObject
	hashNumber
	hashCharacter
	hashText
	hashCons
	hashArray
)

// hashPrime spreads the bits of what is multiplied with it.
const hashPrime = 1099511628211

// Hash returns the hash of a word by a test.
func Hash(h *heap.Heap, test int, a heap.Word) (uint64, api.Errno) {
	switch {
	case h == nil:
		return 0, api.ErrArg
	case !isWord(h, a):
		return 0, heap.ErrWord
	case test < Eq || test > EqualpTest:
		return 0, api.ErrArg
	}
	return hasher{h: h, test: test, places: test <= EqlTest}.hash(a, hashDepth), api.OK
}

// hasher makes hashes: with places also from the places of objects.
type hasher struct {
	h      *heap.Heap
	test   int
	places bool
}

// mixed returns a hash with a further number.
func mixed(hash, next uint64) uint64 {
	hash = (hash ^ next) * hashPrime
	return hash ^ hash>>32
}

func mixedText(hash uint64, text string) uint64 {
	for _, b := range []byte(text) {
		hash = mixed(hash, uint64(b))
	}
	return mixed(hash, uint64(len(text)))
}

// hash returns a number that is the same for all words that are the same. At the depth 0 it does not look at parts.
func (x hasher) hash(w heap.Word, depth int) uint64 {
	if x.test == Eq {
		return mixed(hashWord, uint64(w))
	}
	if f, ok := form(x.h, w); ok {
		return x.number(w, f)
	}
	c, isCharacter := folded(w)
	switch {
	case x.test == EqualpTest && isCharacter:
		return mixed(hashCharacter, uint64(c))
	case x.test == EqualpTest && isArray(x.h, w):
		return x.array(w, depth)
	case x.test >= EqualTest && isText(x.h, w):
		return mixedText(mixed(hashText, uint64(x.h.Kind(w))), text(x.h, w))
	case x.test >= EqualTest && isCons(x.h, w):
		return x.cons(w, depth)
	}
	return x.other(w)
}

// other returns the hash of a word that is the same as no other one.
func (x hasher) other(w heap.Word) uint64 {
	if x.places || !w.IsRef() {
		return mixed(hashWord, uint64(w))
	}
	return mixed(mixed(hashObject, uint64(x.h.Kind(w))), uint64(x.h.Len(w)))
}

// number returns the hash of what is made like a number.
func (x hasher) number(w heap.Word, f api.Form) uint64 {
	if x.test == EqualpTest {
		return x.value(w, f)
	}
	hash := mixedText(mixed(hashNumber, uint64(f.Kind)), f.Text)
	for _, kid := range f.Kids {
		hash = mixedText(mixed(hash, uint64(kid.Kind)), kid.Text)
	}
	return hash
}

// value returns the hash of the value of a number: of its parts as rational numbers.
func (x hasher) value(w heap.Word, f api.Form) uint64 {
	parts := f.Kids
	if f.Kind != api.FormComplex {
		parts = []api.Form{f, {Kind: api.FormInt, Text: "0"}}
	} else if number.Check(f) != api.OK {
		return x.other(w)
	}
	hash := uint64(hashNumber)
	for _, part := range parts {
		exact, e := number.Rational(part)
		if e != api.OK {
			return x.other(w)
		}
		hash = mixedText(hash, exact.Text)
	}
	return hash
}

func (x hasher) cons(w heap.Word, depth int) uint64 {
	hash := uint64(hashCons)
	if depth > 0 {
		for _, part := range fields(x.h, w) {
			hash = mixed(hash, x.hash(part, depth-1))
		}
	}
	return hash
}

// array returns the hash of an array: of its rank and its elements, but not of their parts.
func (x hasher) array(w heap.Word, depth int) uint64 {
	hash := uint64(hashArray)
	if depth > 0 {
		hash = mixed(hash, uint64(len(dimensions(x.h, w))))
		for _, element := range elements(x.h, w) {
			hash = mixed(hash, x.hash(element, 0))
		}
	}
	return hash
}
