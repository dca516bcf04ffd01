package heap

import "commonform/api"

const wordBytes = 8

// header says what an object is. It is packed into the first word of the object.
type header struct {
	kind  int
	raw   bool // it has bytes, not fields
	count int  // of fields, or of bytes
}

const (
	kindWidth = 5
	rawBit    = 1 << kindWidth
	countFrom = kindWidth + 1
)

func (x header) pack() Word {
	w := Word(x.kind) | Word(x.count)<<countFrom
	if x.raw {
		w |= rawBit
	}
	return w
}

func unpack(w Word) header {
	return header{kind: int(w & (rawBit - 1)), raw: w&rawBit != 0, count: int(w >> countFrom)}
}

// size returns how many words an object takes.
func (x header) size() int {
	if x.raw {
		return 1 + (x.count+wordBytes-1)/wordBytes
	}
	return 1 + x.count
}

// wrong returns the error of what is to be an object.
func (x header) wrong() api.Errno {
	most := maxFields
	if x.raw {
		most = maxBytes
	}
	if x.kind < 1 || x.kind > KindLast || x.count < 0 || x.count > most {
		return api.ErrArg
	}
	return api.OK
}

// add makes an object behind all others, with fields that are Nil, or bytes that are 0, and returns its place.
func (h *Heap) add(x header) int {
	place := len(h.words)
	h.words = append(h.words, make([]Word, x.size())...)
	h.begins = append(h.begins, make([]bool, x.size())...)
	h.words[place] = x.pack()
	h.begins[place] = true
	fields := h.fields(place, x)
	for i := range fields {
		fields[i] = Nil
	}
	return place
}

// make makes an object, if it is right and there is room.
func (h *Heap) make(x header) (int, api.Errno) {
	if h.missing() {
		return 0, api.ErrArg
	}
	if e := x.wrong(); e != api.OK {
		return 0, e
	}
	if len(h.words)+x.size() > h.limit {
		return 0, api.ErrWords
	}
	return h.add(x), api.OK
}

// New returns a new object with fields.
func (h *Heap) New(kind, fields int) (Word, api.Errno) {
	place, e := h.make(header{kind: kind, count: fields})
	if e != api.OK {
		return 0, e
	}
	return reference(place), api.OK
}

// Raw returns a new object with bytes.
func (h *Heap) Raw(kind int, bytes string) (Word, api.Errno) {
	place, e := h.make(header{kind: kind, raw: true, count: len(bytes)})
	if e != api.OK {
		return 0, e
	}
	h.write(place, bytes)
	return reference(place), api.OK
}

// write puts the bytes of a new object into its words.
func (h *Heap) write(place int, bytes string) {
	words := h.words[place+1:]
	put := func(i int) { words[i/wordBytes] |= Word(bytes[i]) << (i % wordBytes * 8) }
	for i := range len(bytes) {
		put(i)
	}
}

// bytes returns the bytes of an object that has some.
func (h *Heap) bytes(place int, x header) string {
	words := h.words[place+1:]
	get := func(i int) byte { return byte(words[i/wordBytes] >> (i % wordBytes * 8)) }
	bytes := make([]byte, x.count)
	for i := range bytes {
		bytes[i] = get(i)
	}
	return string(bytes)
}

// fields returns the memory of the fields of an object, nothing if it has bytes.
func (h *Heap) fields(place int, x header) []Word {
	if x.raw {
		return nil
	}
	return h.words[place+1 : place+1+x.count]
}

// isObject reports whether a word is a reference to an object.
func (h *Heap) isObject(w Word) bool {
	return h != nil && w.IsRef() && w>>tagBits < Word(len(h.begins)) && h.begins[w.place()]
}

// isWord reports whether a word is immediate, or a reference to an object.
func (h *Heap) isWord(w Word) bool { return w.immediate() || h.isObject(w) }

// object returns the place of an object, and what it is: the error of a call that needs one with bytes, or one with fields.
func (h *Heap) object(w Word, raw bool) (int, header, api.Errno) {
	if h.missing() {
		return 0, header{}, api.ErrArg
	}
	if !h.isObject(w) {
		return 0, header{}, ErrWord
	}
	place := w.place()
	x := unpack(h.words[place])
	if x.raw != raw {
		return 0, header{}, ErrRaw
	}
	return place, x, api.OK
}

// header returns what an object is; the zero value for words that are no reference to one.
func (h *Heap) header(w Word) header {
	if !h.isObject(w) {
		return header{}
	}
	return unpack(h.words[w.place()])
}

// Kind returns the kind of an object, 0 for all other words.
func (h *Heap) Kind(w Word) int { return h.header(w).kind }

// Len returns the number of fields or bytes of an object.
func (h *Heap) Len(w Word) int { return h.header(w).count }

// field returns where in the words a field lies.
func (h *Heap) field(w Word, i int) (int, api.Errno) {
	place, x, e := h.object(w, false)
	if e != api.OK {
		return 0, e
	}
	if i < 0 || i >= x.count {
		return 0, api.ErrRange
	}
	return place + 1 + i, api.OK
}

// Get returns a field.
func (h *Heap) Get(w Word, i int) (Word, api.Errno) {
	at, e := h.field(w, i)
	if e != api.OK {
		return 0, e
	}
	return h.words[at], api.OK
}

// Set changes a field.
func (h *Heap) Set(w Word, i int, x Word) api.Errno {
	at, e := h.field(w, i)
	if e != api.OK {
		return e
	}
	if !h.isWord(x) {
		return ErrWord
	}
	h.words[at] = x
	return api.OK
}

// Bytes returns the bytes of an object.
func (h *Heap) Bytes(w Word) (string, api.Errno) {
	place, x, e := h.object(w, true)
	if e != api.OK {
		return "", e
	}
	return h.bytes(place, x), api.OK
}

// Place returns the place of an object, -1 for all other words.
func (h *Heap) Place(w Word) int {
	if !h.isObject(w) {
		return -1
	}
	return w.place()
}
