package table

import (
	"commonform/api"
	"commonform/heap"
)

// Fields of the vector for looking keys up. Behind them it has buckets: the first entries of chains, or Nil. In a chain the newest entry is the first one.
const (
	movesField = iota // how often the heap had been laid anew, and the places of the vector and its table, when it was filled
	hereField
	tableField
	lastField  // the last entry of the list, or Nil
	looseField // the chain of the keys of which others may make other keys
	firstBucket
)

const (
	minBuckets = 16
	maxBuckets = 16384 - firstBucket // a vector has no more fields
)

// index finds the entries of a table.
type index struct {
	table
	vector  heap.Word
	buckets int
}

// index returns the index of a table, and whether it has one. If objects were moved, it is filled anew.
func (t table) index() (index, bool) {
	vector := t.field(indexField)
	x := index{table: t, vector: vector, buckets: t.h.Len(vector) - firstBucket}
	if _, e := t.h.Get(vector, firstBucket); e != api.OK || t.h.Kind(vector) != heap.KindVector {
		return index{}, false
	}
	for i, w := range x.stamp() {
		if t.of(vector, i) != w {
			x.fill()
			break
		}
	}
	return x, true
}

// stamp returns what tells whether places are those with which the index was filled.
func (x index) stamp() [lastField]heap.Word {
	return [lastField]heap.Word{fixnum(x.h.Moves()), fixnum(x.h.Place(x.vector)), fixnum(x.h.Place(x.self))}
}

// fill lays all entries anew.
func (x index) fill() {
	last := x.settle()
	for i := looseField; i < firstBucket+x.buckets; i++ {
		x.h.Set(x.vector, i, heap.Nil)
	}
	for entry := range x.entries() {
		x.insert(entry)
	}
	x.h.Set(x.vector, lastField, last)
	for i, w := range x.stamp() {
		x.h.Set(x.vector, i, w)
	}
}

// prepare makes an index, or a greater one, if there are many entries, and there is room.
func (t table) prepare() {
	count := natural(t.field(countField), api.MaxWords)
	x, ok := t.index()
	if count <= few || ok && (count <= x.buckets || x.buckets == maxBuckets) {
		return
	}
	grow := func(buckets int) {
		vector, e := t.h.New(heap.KindVector, firstBucket+buckets)
		if e != api.OK {
			return
		}
		t.h.Set(t.self, indexField, vector)
		index{table: t, vector: vector, buckets: buckets}.fill()
	}
	grow(min(max(minBuckets, 2*count), maxBuckets))
}

// place returns the field of the vector at which the entry of a key is found.
func (x index) place(key heap.Word) int {
	if x.loose(key) {
		return looseField
	}
	return x.bucket(key)
}

// bucket returns the field at which the entry of a key is found if its hash stays the same.
func (x index) bucket(key heap.Word) int {
	hash := hasher{h: x.h, test: x.test, places: true}.hash(key, 1)
	return firstBucket + int(hash%uint64(x.buckets))
}

// loose reports whether a change of an object's fields may make another key of it. All such keys are looked at, whatever they were when they were put.
func (t table) loose(key heap.Word) bool {
	switch t.h.Kind(key) {
	case heap.KindComplex:
		return t.test >= EqlTest
	case heap.KindCons:
		return t.test >= EqualTest
	case heap.KindVector, heap.KindArray:
		return t.test == EqualpTest
	}
	return false
}

// insert finds an entry from now on; it is the last one of the list.
func (x index) insert(entry heap.Word) {
	place := x.place(x.of(entry, keyField))
	x.h.Set(entry, chainField, x.of(x.vector, place))
	x.h.Set(x.vector, place, entry)
	x.h.Set(x.vector, lastField, entry)
}

// drop finds an entry no more; the previous one is that in the list.
func (x index) drop(entry, previous heap.Word) {
	if x.of(x.vector, lastField) == entry {
		x.h.Set(x.vector, lastField, previous)
	}
	place := x.place(x.of(entry, keyField))
	next := x.of(entry, chainField)
	if x.of(x.vector, place) == entry {
		x.h.Set(x.vector, place, next)
		return
	}
	for other := range x.chain(x.of(x.vector, place), chainField) {
		if x.of(other, chainField) == entry {
			x.h.Set(other, chainField, next)
			return
		}
	}
}

// lookUp returns the entry of the first key that is the same as a word, and whether there is one.
func (x index) lookUp(key heap.Word) (heap.Word, bool) {
	loose, isLoose := x.search(looseField, key)
	fast, isFast := x.search(x.bucket(key), key)
	if !isLoose {
		return fast, isFast
	}
	if isFast { // both: one of them was changed
		for entry := range x.list() {
			if entry == fast {
				return fast, true
			}
			if entry == loose {
				break
			}
		}
	}
	return loose, true
}

// search returns the entry of the first key of a chain that is the same as a word: the last one that is found there.
func (x index) search(place int, key heap.Word) (found heap.Word, ok bool) {
	for entry := range x.chain(x.of(x.vector, place), chainField) {
		if x.same(entry, key) {
			found, ok = entry, true
		}
	}
	return found, ok
}
