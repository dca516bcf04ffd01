package table

import (
	"slices"

	"commonform/api"
	"commonform/heap"
	"commonform/number"
)

// Eql reports whether two words are eql.
func Eql(h *heap.Heap, a, b heap.Word) (bool, api.Errno) { return checked(h, EqlTest, a, b) }

// Equal reports whether two words are equal.
func Equal(h *heap.Heap, a, b heap.Word) (bool, api.Errno) { return checked(h, EqualTest, a, b) }

// Equalp reports whether two words are equalp.
func Equalp(h *heap.Heap, a, b heap.Word) (bool, api.Errno) { return checked(h, EqualpTest, a, b) }

func checked(h *heap.Heap, test int, a, b heap.Word) (bool, api.Errno) {
	if h == nil {
		return false, api.ErrArg
	}
	if !isWord(h, a) || !isWord(h, b) {
		return false, heap.ErrWord
	}
	return same(h, test, a, b), api.OK
}

// same reports whether two words are the same by a test.
func same(h *heap.Heap, test int, a, b heap.Word) bool {
	r := relation{h: h, test: test}
	return r.same(a, b)
}

// relation looks for two words that differ; as long as none are found, all pairs that were met count as the same.
type relation struct {
	h    *heap.Heap
	test int
	// pairs of other words that agree by value
	marks map[[2]heap.Word]bool
	// objects that are the same if their parts are, by one of them: so many pairs that follow from others are never looked at, and circles end soon
	leaders map[heap.Word]heap.Word
}

func (r *relation) same(a, b heap.Word) bool {
	pair := [2]heap.Word{a, b}
	if a == b || r.marks[pair] {
		return true
	}
	if r.agree(a, b) {
		r.mark(pair)
		return true
	}
	parts, others, ok := r.parts(a, b)
	if !ok {
		return false
	}
	if !r.join(a, b) {
		return true
	}
	for i, x := range parts {
		if !r.same(x, others[i]) {
			return false
		}
	}
	return true
}

func (r *relation) mark(pair [2]heap.Word) {
	if r.marks == nil {
		r.marks = map[[2]heap.Word]bool{}
	}
	r.marks[pair] = true
}

// leader returns the object that stands for all those that count as the same as this one.
func (r *relation) leader(w heap.Word) heap.Word {
	for {
		above, ok := r.leaders[w]
		if !ok {
			return w
		}
		if top, ok := r.leaders[above]; ok { // this makes the next way shorter
			r.leaders[w] = top
		}
		w = above
	}
}

// join makes two objects count as the same, and reports whether they did not already.
func (r *relation) join(a, b heap.Word) bool {
	a, b = r.leader(a), r.leader(b)
	if a == b {
		return false
	}
	if r.leaders == nil {
		r.leaders = map[heap.Word]heap.Word{}
	}
	r.leaders[a] = b
	return true
}

// agree reports whether two different words agree by value.
func (r *relation) agree(a, b heap.Word) bool {
	if !a.IsRef() && !b.IsRef() { // two fixnums with the same value would be one word
		return r.test == EqualpTest && sameLetter(a, b)
	}
	switch r.test {
	case EqlTest:
		return r.sameNumber(a, b)
	case EqualTest:
		return r.sameNumber(a, b) || r.sameText(a, b)
	case EqualpTest:
		return r.equalNumbers(a, b) || r.sameText(a, b)
	}
	return false
}

// sameNumber reports whether two words are numbers with the same form.
func (r *relation) sameNumber(a, b heap.Word) bool {
	f, ok := form(r.h, a)
	if !ok {
		return false
	}
	g, ok := form(r.h, b)
	return ok && sameForm(f, g) && slices.EqualFunc(f.Kids, g.Kids, sameForm) && number.Check(f) == api.OK
}

// sameForm reports whether two forms have the same kind and text.
func sameForm(f, g api.Form) bool { return f.Kind == g.Kind && f.Text == g.Text }

// equalNumbers reports whether two words are numbers with the same value.
func (r *relation) equalNumbers(a, b heap.Word) bool {
	f, ok := form(r.h, a)
	if !ok {
		return false
	}
	g, ok := form(r.h, b)
	if !ok {
		return false
	}
	equal, e := number.Equals(f, g)
	return equal && e == api.OK
}

func (r *relation) sameText(a, b heap.Word) bool {
	return isText(r.h, a) && isText(r.h, b) && r.h.Kind(a) == r.h.Kind(b) && text(r.h, a) == text(r.h, b)
}

func sameLetter(a, b heap.Word) bool {
	c, ok := folded(a)
	if !ok {
		return false
	}
	d, ok := folded(b)
	return ok && c == d
}

// parts returns the parts of two objects that agree if their parts do, and whether they are such ones.
func (r *relation) parts(a, b heap.Word) (parts, others []heap.Word, ok bool) {
	switch {
	case r.test >= EqualTest && isCons(r.h, a) && isCons(r.h, b):
		return fields(r.h, a), fields(r.h, b), true
	case r.test != EqualpTest || !isArray(r.h, a) || !isArray(r.h, b):
		return nil, nil, false
	case !slices.Equal(dimensions(r.h, a), dimensions(r.h, b)):
		return nil, nil, false
	}
	parts, others = elements(r.h, a), elements(r.h, b)
	return parts, others, len(parts) == len(others)
}
