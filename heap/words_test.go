package heap_test

import (
	"math"
	"math/rand"
	"testing"
	"unicode/utf8"

	"commonform/api"
	"commonform/heap"
)

// P15.1, P15.2: fixnums, with the examples.
func TestFix(t *testing.T) {
	const most = 1<<60 - 1
	for n, want := range map[int64]heap.Word{0: 0, 5: 40, 1: 8, -1: math.MaxUint64 - 7, most: 1<<63 - 8, -most - 1: 1 << 63} {
		w, e := heap.Fix(n)
		if w != want || e != api.OK {
			t.Errorf("Fix(%d) = %d, %v; want %d", n, w, e, want)
		}
		if back, ok := w.Fixnum(); back != n || !ok {
			t.Errorf("Fixnum of Fix(%d) = %d, %t", n, back, ok)
		}
	}
	for _, n := range []int64{most + 1, -most - 2, math.MaxInt64, math.MinInt64} {
		w, e := heap.Fix(n)
		equal(t, "Fix beyond the range", answerOf(w, e), answer{0, api.ErrRange})
	}
}

// P15.1, P15.2: characters, with the example.
func TestChar(t *testing.T) {
	for c, want := range map[rune]heap.Word{'a': 777, 0: 1, 0xD7FF: 0xD7FF<<3 | 1, 0xE000: 0xE000<<3 | 1, 0x10FFFF: 0x10FFFF<<3 | 1} {
		w, e := heap.Char(c)
		if w != want || e != api.OK {
			t.Errorf("Char(%d) = %d, %v; want %d", c, w, e, want)
		}
		if back, ok := w.Character(); back != c || !ok {
			t.Errorf("Character of Char(%d) = %d, %t", c, back, ok)
		}
	}
	for _, c := range []rune{-1, 0xD800, 0xDFFF, 0x110000, math.MaxInt32, math.MinInt32} {
		w, e := heap.Char(c)
		equal(t, "Char beyond the range", answerOf(w, e), answer{0, api.ErrRange})
	}
}

// badWords are words that are neither immediate nor references.
func badWords() []heap.Word {
	return words(4, 5, 6, 7, 10, 12, 18, 2|1<<63, 0xD800<<3|1, 0xDFFF<<3|1, 0x110000<<3|1, 1|1<<40, 1|1<<63, math.MaxUint64)
}

// P15.2: a word is at most one of a fixnum, a character, Unbound and a reference; a bad one is none.
func TestSorts(t *testing.T) {
	h := newHeap(t, 64, 64)
	check := func(w heap.Word, want int) {
		n := 0
		if _, ok := w.Fixnum(); ok {
			n++
		}
		if c, ok := w.Character(); ok {
			n++
			if !utf8.ValidRune(c) {
				t.Errorf("%d has the character %d", w, c)
			}
		}
		if w == heap.Unbound {
			n++
		}
		if w.IsRef() {
			n++
		}
		if n > 1 || want >= 0 && n != want {
			t.Errorf("%d is %d sorts of words", w, n)
		}
		if right := h.Set(heap.Nil, 0, w) == api.OK; right != (n == 1 && (!w.IsRef() || w == heap.Nil)) {
			t.Errorf("Set takes %d: %t", w, right)
		}
	}
	for _, w := range badWords() {
		check(w, 0)
		n, ok := w.Fixnum()
		c, okay := w.Character()
		equal(t, "a bad word", []any{n, ok, c, okay, w.IsRef()}, []any{0, false, 0, false, false})
	}
	for _, w := range words(0, 8, 1, 777, heap.Unbound, heap.Nil, 51, math.MaxUint64-7, math.MaxUint64-4) {
		check(w, 1)
	}
	r := rand.New(rand.NewSource(151))
	for range 10000 {
		check(heap.Word(r.Uint64()>>r.Intn(64)), -1)
	}
}

// P15.2: each fixnum and each character is another word, and the same one each time.
func TestDifferent(t *testing.T) {
	r := rand.New(rand.NewSource(152))
	for range 2000 {
		n, m := r.Int63n(1<<60)>>r.Intn(60), -r.Int63n(1<<60)>>r.Intn(60)
		a, _ := heap.Fix(n)
		b, _ := heap.Fix(m)
		if (a == b) != (n == m) {
			t.Errorf("Fix(%d) and Fix(%d)", n, m)
		}
	}
	seen := map[heap.Word]bool{}
	for c := rune(0); c <= utf8.MaxRune; c++ {
		w, e := heap.Char(c)
		if utf8.ValidRune(c) != (e == api.OK) || e == api.OK && seen[w] {
			t.Fatalf("Char(%d) = %d, %v", c, w, e)
		}
		seen[w] = true
	}
}
