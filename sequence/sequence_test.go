package sequence_test

import (
	"math/rand"
	"slices"
	"testing"

	"commonform/api"
	"commonform/sequence"
)

// P12.1: the chapter's examples.
func TestExamples(t *testing.T) {
	l, one := nums("1 2 1 3"), num("1")
	back, once := all(), all()
	back.FromEnd, once.Count = true, 1
	last := once
	last.FromEnd = true
	i, e := sequence.Position(one, l, all())
	equal(t, "Position", []any{i, e}, []any{0, 0})
	i, e = sequence.Position(one, l, back)
	equal(t, "Position from the end", []any{i, e}, []any{2, 0})
	equal(t, "Remove", texts(sequence.Remove(one, l, once)), "2 1 3")
	equal(t, "Remove from the end", texts(sequence.Remove(one, l, last)), "1 2 3")
	equal(t, "Distinct", texts(sequence.Distinct(l, all())), "2 1 3")
	equal(t, "Distinct from the end", texts(sequence.Distinct(l, back)), "1 2 3")
	i, e = sequence.Search(nums("1 3"), l, all())
	equal(t, "Search", []any{i, e}, []any{2, 0})
	is, e := sequence.Alike(sequence.Loose, str("ab"), str("Ab"))
	equal(t, "Alike by Loose", []any{is, e}, []any{true, 0})
	is, e = sequence.Alike(sequence.Same, str("ab"), str("Ab"))
	equal(t, "Alike by Same", []any{is, e}, []any{false, 0})
	is, e = sequence.Alike(sequence.Loose, one, api.Form{Kind: api.FormSingle, Text: "3f800000"})
	equal(t, "Alike by Loose", []any{is, e}, []any{true, 0})
	couples := []api.Form{list(num("2"), char("b")), list(num("1"), char("a")), list(num("2"), char("a"))}
	equal(t, "Sort", texts(sequence.Sort(couples, sequence.Numbers, sequence.First)), "(1 a NIL) (2 b NIL) (2 a NIL)")
	equal(t, "Merge", texts(sequence.Merge(nums("1 3"), nums("2 3"), sequence.Numbers, sequence.Whole)), "1 2 3 3")
	equal(t, "Union", texts(sequence.Union(nums("1 2"), nums("2 3"), sequence.Same, sequence.Whole)), "1 2 3")
}

// P12.1: sequences that are too long come ahead of all else, the first one first.
func TestSizes(t *testing.T) {
	long := slices.Repeat(nums("1"), 2001)
	full := long[:2000]
	o := sequence.Options{Test: 9, Start: -1}
	x := num("1")
	_, e0 := sequence.Find(x, long, o)
	_, e1 := sequence.Position(x, long, o)
	_, e2 := sequence.Count(x, long, o)
	_, e3 := sequence.Remove(x, long, o)
	_, e4 := sequence.Substitute(x, x, long, o)
	_, e5 := sequence.Distinct(long, o)
	n6, e6 := sequence.Search(long, nil, o)
	n7, e7 := sequence.Search(nil, long, o)
	n8, e8 := sequence.Mismatch(long, nil, o)
	n9, e9 := sequence.Mismatch(nil, long, o)
	equal(t, "the results of Search and Mismatch", []int{n6, n7, n8, n9}, []int{0, 0, 0, 0})
	l := []api.Errno{e0, e1, e2, e3, e4, e5, e6, e7, e8, e9}
	_, e0 = sequence.Subsequence(long, -1, 0)
	_, e1 = sequence.Replace(long, nil, -1, 0, 0, 0)
	_, e2 = sequence.Replace(nil, long, -1, 0, 0, 0)
	_, e3 = sequence.Fill(long, x, -1, 0)
	_, e4 = sequence.Reverse(long)
	_, e5 = sequence.Sort(long, 9, 9)
	_, e6 = sequence.Merge(long, nil, 9, 9)
	_, e7 = sequence.Merge(nil, long, 9, 9)
	_, e8 = sequence.Merge(full, nums("1"), 0, 0)
	l = append(l, e0, e1, e2, e3, e4, e5, e6, e7, e8)
	_, e0 = sequence.Union(long, nil, 9, 9)
	_, e1 = sequence.Union(nil, long, 9, 9)
	_, e2 = sequence.Intersection(long, nil, 9, 9)
	_, e3 = sequence.Intersection(nil, long, 9, 9)
	_, e4 = sequence.Difference(long, nil, 9, 9)
	_, e5 = sequence.Difference(nil, long, 9, 9)
	first, e6 := sequence.Subset(long, nil, 9, 9)
	second, e7 := sequence.Subset(nil, long, 9, 9)
	equal(t, "the results of Subset", []bool{first, second}, []bool{false, false})
	_, e8 = sequence.Union(full, nums("2"), 0, 0)
	for i, e := range append(l, e0, e1, e2, e3, e4, e5, e6, e7, e8) {
		if e != api.ErrSize {
			t.Errorf("the function %d of a sequence of 2001 elements: %v", i, e)
		}
	}
	_, e := sequence.Merge(full, []api.Form{char("a")}, 0, 0)
	fails(t, "Merge of 2001 elements and a character", e, api.ErrType)
	_, e = sequence.Union(full, []api.Form{char("a")}, 0, sequence.First)
	fails(t, "Union without keys", e, api.ErrType)
	got, e := sequence.Merge(full[:1999], nums("1"), 0, 0)
	equal(t, "Merge of 2000", []any{len(got), e}, []any{2000, 0})
	got, e = sequence.Union(full, nums("1"), 0, 0)
	equal(t, "Union of 2000", []any{len(got), e}, []any{2000, 0})
	n, e := sequence.Count(x, full, all())
	equal(t, "Count of 2000", []any{n, e}, []any{2000, 0})
}

// P12.1: functions with a start and an end.
func TestParts(t *testing.T) {
	l := nums("1 2 3 4")
	for _, c := range []struct {
		start, end int
		want       string
	}{{0, -1, "1 2 3 4"}, {1, 3, "2 3"}, {4, -1, ""}, {4, 4, ""}, {2, 2, ""}, {-1, -1, "!7[]"}, {0, -2, "!7[]"}, {3, 2, "!7[]"}, {0, 5, "!7[]"}, {5, -1, "!7[]"}, {5, 5, "!7[]"}} {
		equal(t, "Subsequence "+short(c), texts(sequence.Subsequence(l, c.start, c.end)), c.want)
	}
	for _, c := range []struct {
		start, end, from, to int
		want                 string
	}{
		{0, -1, 0, -1, "7 8 9 4"}, {2, -1, 0, -1, "1 2 7 8"}, {1, 2, 1, -1, "1 8 3 4"}, {0, -1, 1, 2, "8 2 3 4"}, {4, -1, 0, -1, "1 2 3 4"}, {0, -1, 3, 3, "1 2 3 4"},
		{5, -1, 0, -1, "!7[]"}, {0, -2, 0, -1, "!7[]"}, {0, -1, 4, -1, "!7[]"}, {0, -1, 2, 1, "!7[]"}, {0, -1, 0, 4, "!7[]"}, {0, 4, 0, 3, "7 8 9 4"},
	} {
		equal(t, "Replace "+short(c), texts(sequence.Replace(l, nums("7 8 9"), c.start, c.end, c.from, c.to)), c.want)
	}
	for _, c := range []struct {
		start, end int
		want       string
	}{{0, -1, "a a a a"}, {1, 3, "1 a a 4"}, {4, 4, "1 2 3 4"}, {1, 0, "!7[]"}, {-1, 0, "!7[]"}, {0, 5, "!7[]"}} {
		equal(t, "Fill "+short(c), texts(sequence.Fill(l, char("a"), c.start, c.end)), c.want)
	}
	equal(t, "Reverse", texts(sequence.Reverse(l)), "4 3 2 1")
	equal(t, "Reverse of nothing", texts(sequence.Reverse(nil)), "")
	equal(t, "the argument behind all this", texts(l, 0), "1 2 3 4")
	x, y := list(num("1")), list(num("2"))
	got, _ := sequence.Replace([]api.Form{x, x}, []api.Form{y, y}, 0, 1, 1, 2)
	got[0].Kids[0] = num("9")
	equal(t, "the memory of Replace", texts([]api.Form{x, y}, 0), "(1 NIL) (2 NIL)")
}

// R4: results share no memory with arguments, nor with one another.
func TestMemory(t *testing.T) {
	x := list(num("1"))
	l := []api.Form{x, x}
	o := all()
	results := [][]api.Form{}
	add := func(l []api.Form, e api.Errno) {
		if e == api.OK {
			results = append(results, l)
		}
	}
	add(sequence.Remove(num("2"), l, o))
	add(sequence.Substitute(x, x, l, o))
	add(sequence.Distinct(l, sequence.Options{End: 0, Count: -1}))
	add(sequence.Subsequence(l, 0, -1))
	add(sequence.Replace(l, l, 0, -1, 0, -1))
	add(sequence.Fill(l, x, 0, -1))
	add(sequence.Reverse(l))
	add(sequence.Sort(l, sequence.Numbers, sequence.First))
	add(sequence.Merge(l, l, sequence.Numbers, sequence.First))
	add(sequence.Union(l, l, 0, 0))
	add(sequence.Intersection(l, l, 0, 0))
	add(sequence.Difference(l, nil, 0, 0))
	if len(results) != 12 {
		t.Fatalf("%d results", len(results))
	}
	for i, got := range results {
		got[0].Kids[0] = num("9")
		equal(t, "another element of the result "+short(i), text(got[1]), "(1 NIL)")
		equal(t, "the argument", texts(l, 0), "(1 NIL) (1 NIL)")
	}
	found, _ := sequence.Find(x, l, o)
	found.Kids[0] = num("9")
	key, _ := sequence.Taken(sequence.Whole, x)
	key.Kids[0] = num("9")
	equal(t, "the argument", texts(l, 0), "(1 NIL) (1 NIL)")
}

// P12.3: searching.
func TestSearching(t *testing.T) {
	r := rand.New(rand.NewSource(124))
	for range 2000 {
		l, x := anyElements(r, 1, 8), anyElement(r, 1)
		o := anyOptions(r, len(l))
		i, e := sequence.Position(x, l, o)
		if e != api.OK {
			continue
		}
		found, f := sequence.Find(x, l, o)
		if i >= 0 {
			equal(t, "Find", []any{found, f}, []any{l[i], 0})
		}
		o.FromEnd, o.Count = false, -1
		i, _ = sequence.Position(x, l, o)
		n, _ := sequence.Count(x, l, o)
		kept, _ := sequence.Remove(x, l, o)
		equal(t, "Count", n, len(l)-len(kept))
		o.FromEnd = true
		if back, _ := sequence.Position(x, l, o); back < i {
			t.Errorf("Position from the end is %d, and %d from the start", back, i)
		}
		if i > 0 {
			o.End = i
			n, _ := sequence.Count(x, l, o)
			equal(t, "Count ahead of Position", n, 0)
		}
	}
}

// P12.4: changes.
func TestChanges(t *testing.T) {
	r := rand.New(rand.NewSource(125))
	for range 2000 {
		l, x := anyElements(r, 1, 8), anyElement(r, 1)
		o := anyOptions(r, len(l))
		kept, e := sequence.Remove(x, l, o)
		if e != api.OK {
			continue
		}
		changed, _ := sequence.Substitute(char("z"), x, l, o)
		n := 0
		for _, y := range changed {
			if y.Kind == api.FormChar {
				n++
			}
		}
		if o.Count >= 0 && n > o.Count || n != len(l)-len(kept) {
			t.Errorf("%d elements changed, %d kept of %d, with Count %d", n, len(kept), len(l), o.Count)
		}
		left, _ := sequence.Remove(char("z"), changed, all())
		equal(t, "what Substitute leaves", texts(left, 0), texts(kept, 0))
		twice, _ := sequence.Reverse(l)
		twice, _ = sequence.Reverse(twice)
		equal(t, "Reverse of Reverse", texts(twice, 0), texts(l, 0))
		plain := sequence.Options{End: -1, FromEnd: o.FromEnd, Test: o.Test}
		distinct, _ := sequence.Distinct(l, plain)
		for i, y := range distinct {
			if k, _ := sequence.Position(y, distinct, plain); k != i {
				t.Errorf("Distinct has %v twice", y)
			}
		}
		is, _ := sequence.Subset(l, distinct, o.Test, 0)
		equal(t, "that each element is in Distinct", is, true)
	}
}

// P12.5: sorting.
func TestSorting(t *testing.T) {
	r := rand.New(rand.NewSource(126))
	for range 600 {
		l, m := anyElements(r, 2, 12), anyElements(r, 2, 12)
		a, e := sequence.Sort(l, sequence.Numbers, sequence.First)
		fails(t, "Sort", e, api.OK)
		for i := range a[:max(0, len(a)-1)] {
			if is, _ := sequence.Less(sequence.Numbers, a[i+1].Kids[0], a[i].Kids[0]); is {
				t.Errorf("Sort has %s", texts(a, 0))
			}
		}
		again, _ := sequence.Sort(a, sequence.Numbers, sequence.First)
		equal(t, "Sort of Sort", texts(again, 0), texts(a, 0))
		for _, x := range a {
			n, _ := sequence.Count(x, l, all())
			k, _ := sequence.Count(x, a, all())
			equal(t, "Count", k, n)
		}
		b, _ := sequence.Sort(m, sequence.Numbers, sequence.First)
		both, _ := sequence.Merge(a, b, sequence.Numbers, sequence.First)
		joined, _ := sequence.Sort(slices.Concat(a, b), sequence.Numbers, sequence.First)
		equal(t, "Merge of Sort", texts(both, 0), texts(joined, 0))
	}
	// a long one, whose second key tells where an element stood
	var long []api.Form
	for i := range 2000 {
		long = append(long, list(num(short(i*7%13)), num(short(i))))
	}
	got, _ := sequence.Sort(long, sequence.Numbers, sequence.First)
	for i := range got[1:] {
		x, y := got[i], got[i+1]
		if equalKeys := x.Kids[0].Text == y.Kids[0].Text; equalKeys {
			if is, _ := sequence.Less(sequence.Numbers, x.Kids[1], y.Kids[1]); !is {
				t.Errorf("%s stands ahead of %s", text(x), text(y))
			}
		}
	}
}

// P12.6: sets.
func TestSetLaws(t *testing.T) {
	r := rand.New(rand.NewSource(127))
	for range 1500 {
		a, b := anyElements(r, 1, 6), anyElements(r, 1, 6)
		test := r.Intn(2)
		both, _ := sequence.Intersection(a, b, test, 0)
		only, _ := sequence.Difference(a, b, test, 0)
		equal(t, "elements", len(both)+len(only), len(a))
		none, _ := sequence.Intersection(both, only, test, 0)
		equal(t, "elements in both", len(none), 0)
		joined, _ := sequence.Union(only, both, test, 0)
		is, _ := sequence.Subset(a, joined, test, 0)
		back, _ := sequence.Subset(joined, a, test, 0)
		equal(t, "that Union has the elements", []bool{is, back}, []bool{true, true})
		u, _ := sequence.Union(a, b, test, 0)
		is, _ = sequence.Subset(a, u, test, 0)
		equal(t, "Subset of Union", is, true)
	}
}
