package sequence_test

import (
	"math/rand"
	"slices"
	"sort"
	"strings"
	"testing"

	"commonform/api"
	"commonform/forms"
	"commonform/number"
	"commonform/sequence"
)

// The model says of each function what the chapter says, element by element.

func modelAlike(test int, x, y api.Form) bool {
	if test == sequence.Loose {
		upper := func(s string) string {
			return strings.Map(func(c rune) rune {
				if c >= 'a' && c <= 'z' {
					return c - 32
				}
				return c
			}, s)
		}
		both := x.Kind == y.Kind
		if same, e := number.Equals(x, y); e == api.OK {
			return same
		}
		if both && (x.Kind == api.FormChar || x.Kind == api.FormString) {
			return upper(x.Text) == upper(y.Text)
		}
		if both && (x.Kind == api.FormCons || x.Kind == api.FormVector) {
			return slices.EqualFunc(x.Kids, y.Kids, func(a, b api.Form) bool { return modelAlike(test, a, b) })
		}
	}
	return forms.Equal(x, y)
}

func modelKey(key int, x api.Form) (api.Form, bool) {
	list := x.Kind == api.FormCons
	n := len(x.Kids)
	switch {
	case key == sequence.Whole:
		return x, true
	case key == sequence.First && list && n > 0:
		return x.Kids[0], true
	case key == sequence.Second && list && n > 2:
		return x.Kids[1], true
	case key == sequence.Second && list && n > 0 && x.Kids[n-1].Kind == api.FormCons && len(x.Kids[n-1].Kids) > 0:
		return x.Kids[n-1].Kids[0], true
	case key == sequence.Length && list:
		return whole(n - 1), true
	case key == sequence.Length && x.Kind == api.FormVector:
		return whole(n), true
	case key == sequence.Length && x.Kind == api.FormString:
		return whole(len(x.Text)), true
	}
	return api.Form{}, false
}

func whole(n int) api.Form { return num(short(n)) }

func modelKeys(key int, l []api.Form) ([]api.Form, bool) {
	var keys []api.Form
	for _, x := range l {
		k, ok := modelKey(key, x)
		if !ok {
			return nil, false
		}
		keys = append(keys, k)
	}
	return keys, true
}

func modelBounds(start, end, n int) (int, api.Errno) {
	if start < 0 || end < -1 || end != -1 && (end < start || end > n) || start > n {
		return 0, api.ErrOrder
	}
	if end == -1 {
		end = n
	}
	return end, api.OK
}

func modelArguments(o sequence.Options) api.Errno {
	if o.Test != 0 && o.Test != 1 || o.Key < 0 || o.Key > 3 || o.Count < -1 {
		return api.ErrArg
	}
	return api.OK
}

// modelTaken returns whether each element is taken.
func modelTaken(x api.Form, l []api.Form, o sequence.Options) ([]bool, api.Errno) {
	if e := modelArguments(o); e != api.OK {
		return nil, e
	}
	end, e := modelBounds(o.Start, o.End, len(l))
	if e != api.OK {
		return nil, e
	}
	marks := make([]bool, len(l))
	for i := o.Start; i < end; i++ {
		k, ok := modelKey(o.Key, l[i])
		if !ok {
			return nil, api.ErrType
		}
		marks[i] = modelAlike(o.Test, k, x) != o.Not
	}
	return marks, api.OK
}

// modelChanged returns which of the taken elements are to be changed.
func modelChanged(marks []bool, o sequence.Options) []bool {
	left := o.Count
	changed := make([]bool, len(marks))
	for k := range marks {
		i := k
		if o.FromEnd {
			i = len(marks) - 1 - k
		}
		if marks[i] && left != 0 {
			changed[i] = true
			left--
		}
	}
	return changed
}

// P12.1: all functions with options, against the model.
func TestOptions(t *testing.T) {
	r := rand.New(rand.NewSource(121))
	for range 8000 {
		kind := r.Intn(6)
		l := anyElements(r, kind, 6)
		x, other := anyElement(r, kind), anyElement(r, kind)
		if kind == 2 && r.Intn(2) == 0 {
			x = anyElement(r, 0)
		}
		o := anyOptions(r, len(l))
		what := short([]any{text(x), texts(l, 0), o})
		marks, e := modelTaken(x, l, o)
		checkTaken(t, what, x, l, o, marks, e)
		var removed, substituted []api.Form
		for i, changed := range modelChanged(marks, o) {
			if changed {
				substituted = append(substituted, other)
			} else {
				substituted = append(substituted, l[i])
				removed = append(removed, l[i])
			}
		}
		equal(t, "Remove "+what, texts(sequence.Remove(x, l, o)), texts(removed, e))
		equal(t, "Substitute "+what, texts(sequence.Substitute(other, x, l, o)), texts(substituted, e))
		checkDistinct(t, what, l, o)
		part := anyElements(r, kind, 2)
		checkSearch(t, what, part, l, o)
		if t.Failed() {
			return
		}
	}
}

func checkTaken(t *testing.T, what string, x api.Form, l []api.Form, o sequence.Options, marks []bool, e api.Errno) {
	t.Helper()
	first, count := slices.Index(marks, true), 0
	for i, mark := range marks {
		if mark {
			count++
			if o.FromEnd {
				first = i
			}
		}
	}
	found, position := api.Form{}, first
	missing := e
	if e != api.OK {
		position = 0
	} else if first < 0 {
		missing = api.ErrNone
	} else {
		found = l[first]
	}
	y, f := sequence.Find(x, l, o)
	equal(t, "Find "+what, []any{y, f}, []any{found, missing})
	i, f := sequence.Position(x, l, o)
	equal(t, "Position "+what, []any{i, f}, []any{position, e})
	n, f := sequence.Count(x, l, o)
	equal(t, "Count "+what, []any{n, f}, []any{count, e})
}

func checkDistinct(t *testing.T, what string, l []api.Form, o sequence.Options) {
	t.Helper()
	e := modelArguments(o)
	var kept []api.Form
	if end, f := modelBounds(o.Start, o.End, len(l)); e == api.OK && f == api.OK {
		keys, ok := modelKeys(o.Key, l[o.Start:end])
		if !ok {
			e = api.ErrType
		}
		for i, x := range l {
			out := false
			for k := o.Start; ok && k < end && i >= o.Start && i < end; k++ {
				if k > i && !o.FromEnd || k < i && o.FromEnd {
					out = out || modelAlike(o.Test, keys[i-o.Start], keys[k-o.Start]) != o.Not
				}
			}
			if !out {
				kept = append(kept, x)
			}
		}
	} else if e == api.OK {
		e = f
	}
	if e != api.OK {
		kept = nil
	}
	equal(t, "Distinct "+what, texts(sequence.Distinct(l, o)), texts(kept, e))
}

func checkSearch(t *testing.T, what string, part, l []api.Form, o sequence.Options) {
	t.Helper()
	what += " part " + texts(part, 0)
	alike := func(a, b []api.Form) bool {
		return slices.EqualFunc(a, b, func(x, y api.Form) bool { return modelAlike(o.Test, x, y) })
	}
	a, ok := modelKeys(sequence.Whole, part)
	if modelArguments(o) == api.OK {
		a, ok = modelKeys(o.Key, part)
	}
	place, e := 0, modelArguments(o)
	if end, f := modelBounds(o.Start, o.End, len(l)); e == api.OK && f == api.OK {
		b, too := modelKeys(o.Key, l[o.Start:end])
		e, place = api.ErrType, 0
		if ok && too {
			e, place = api.OK, -1
			for i := o.Start; i+len(part) <= end; i++ {
				if alike(a, b[i-o.Start:i-o.Start+len(part)]) && (place < 0 || o.FromEnd) {
					place = i
				}
			}
		}
	} else if e == api.OK {
		e = f
	}
	n, f := sequence.Search(part, l, o)
	equal(t, "Search "+what, []any{n, f}, []any{place, e})
	place, e = 0, modelArguments(o)
	if e == api.OK {
		b, too := modelKeys(o.Key, l)
		e, place = api.ErrType, 0
		if ok && too {
			e, place = api.OK, -1
			for i := 0; place < 0 && (i < len(a) || i < len(b)); i++ {
				if i >= len(a) || i >= len(b) || !modelAlike(o.Test, a[i], b[i]) {
					place = i
				}
			}
		}
	}
	n, f = sequence.Mismatch(part, l, o)
	equal(t, "Mismatch "+what, []any{n, f}, []any{place, e})
}

func modelOrdered(order int, x api.Form) bool {
	switch order {
	case sequence.Numbers:
		_, e := number.Cmp(x, x)
		return e == api.OK
	case sequence.Characters:
		return x.Kind == api.FormChar
	}
	return x.Kind == api.FormString
}

func modelLess(order int, x, y api.Form) bool {
	if order == sequence.Numbers {
		sign, _ := number.Cmp(x, y)
		return sign == -1
	}
	return x.Text < y.Text
}

// P12.1: Sort and Merge against a stable sort of Go's library, and against Merge by its words.
func TestOrders(t *testing.T) {
	r := rand.New(rand.NewSource(122))
	for range 6000 {
		kind := r.Intn(7) - 1
		if kind == 5 {
			kind = 3
		}
		l, m := anyElements(r, kind, 8), anyElements(r, kind, 4)
		order, key := r.Intn(3), r.Intn(4)
		switch r.Intn(20) {
		case 0:
			order = 3 - 4*r.Intn(2)
		case 1:
			key = 4 - 5*r.Intn(2)
		}
		what := short([]any{texts(l, 0), order, key})
		want, e := modelSort(l, order, key)
		equal(t, "Sort "+what, texts(sequence.Sort(l, order, key)), texts(want, e))
		want, e = modelMerge(l, m, order, key)
		equal(t, "Merge "+what+texts(m, 0), texts(sequence.Merge(l, m, order, key)), texts(want, e))
	}
}

func modelSort(l []api.Form, order, key int) ([]api.Form, api.Errno) {
	if order < 0 || order > 2 || key < 0 || key > 3 {
		return nil, api.ErrArg
	}
	keys, ok := modelKeys(key, l)
	if !ok || slices.ContainsFunc(keys, func(k api.Form) bool { return !modelOrdered(order, k) }) {
		return nil, api.ErrType
	}
	places := make([]int, len(l))
	for i := range places {
		places[i] = i
	}
	sort.SliceStable(places, func(i, k int) bool { return modelLess(order, keys[places[i]], keys[places[k]]) })
	var out []api.Form
	for _, i := range places {
		out = append(out, l[i])
	}
	return out, api.OK
}

func modelMerge(a, b []api.Form, order, key int) ([]api.Form, api.Errno) {
	if _, e := modelSort(slices.Concat(a, b), order, key); e != api.OK {
		return nil, e
	}
	var out []api.Form
	for len(a)+len(b) > 0 {
		fromB := len(a) == 0
		if len(a) > 0 && len(b) > 0 {
			x, _ := modelKey(key, a[0])
			y, _ := modelKey(key, b[0])
			fromB = modelLess(order, y, x)
		}
		if fromB {
			out, b = append(out, b[0]), b[1:]
		} else {
			out, a = append(out, a[0]), a[1:]
		}
	}
	return out, api.OK
}

// P12.1: sets against the model.
func TestSets(t *testing.T) {
	r := rand.New(rand.NewSource(123))
	for range 6000 {
		kind := r.Intn(6)
		a, b := anyElements(r, kind, 5), anyElements(r, kind, 5)
		test, key := r.Intn(2), r.Intn(4)*r.Intn(2)
		switch r.Intn(20) {
		case 0:
			test = 2 - 3*r.Intn(2)
		case 1:
			key = 4 - 5*r.Intn(2)
		}
		what := short([]any{texts(a, 0), texts(b, 0), test, key})
		e := modelArguments(sequence.Options{Test: test, Key: key})
		var union, both, only []api.Form
		if e == api.OK {
			x, ok := modelKeys(key, a)
			y, too := modelKeys(key, b)
			if ok && too {
				is := func(k api.Form) func(api.Form) bool {
					return func(z api.Form) bool { return modelAlike(test, k, z) }
				}
				union = slices.Clone(a)
				for i, k := range y {
					if !slices.ContainsFunc(x, is(k)) {
						union = append(union, b[i])
					}
				}
				for i, k := range x {
					if slices.ContainsFunc(y, is(k)) {
						both = append(both, a[i])
					} else {
						only = append(only, a[i])
					}
				}
			} else {
				e = api.ErrType
			}
		}
		equal(t, "Union "+what, texts(sequence.Union(a, b, test, key)), texts(union, e))
		equal(t, "Intersection "+what, texts(sequence.Intersection(a, b, test, key)), texts(both, e))
		equal(t, "Difference "+what, texts(sequence.Difference(a, b, test, key)), texts(only, e))
		is, f := sequence.Subset(a, b, test, key)
		equal(t, "Subset "+what, []any{is, f}, []any{e == api.OK && len(only) == 0, e})
	}
}

// P12.1, P12.2: elements against the model; both tests are equivalences, and Less is an order.
func TestElements(t *testing.T) {
	l := append(elements(), more()...)
	for _, x := range l {
		for key := -1; key <= 4; key++ {
			y, e := sequence.Taken(key, x)
			want, ok := api.Form{}, false
			if key >= 0 && key <= 3 {
				want, ok = modelKey(key, x)
			}
			code := api.ErrType
			if ok {
				code = api.OK
			} else if key < 0 || key > 3 {
				code = api.ErrArg
			}
			equal(t, "Taken "+short([]any{key, x}), []any{y, e}, []any{want, code})
		}
		for _, y := range l {
			checkPair(t, x, y)
		}
	}
	checkTransitive(t, l)
}

// checkTransitive checks that what is alike by way of a third element is alike, and so for what is less.
func checkTransitive(t *testing.T, l []api.Form) {
	t.Helper()
	relations := []func(x, y api.Form) bool{}
	for n := range 3 {
		relations = append(relations, func(x, y api.Form) bool {
			is, _ := sequence.Less(n, x, y)
			return is
		})
	}
	for n := range 2 {
		relations = append(relations, func(x, y api.Form) bool {
			is, _ := sequence.Alike(n, x, y)
			return is
		})
	}
	for n, related := range relations {
		table := make([][]bool, len(l))
		for i := range l {
			for k := range l {
				table[i] = append(table[i], related(l[i], l[k]))
			}
		}
		for i := range l {
			for j := range l {
				for k := range l {
					if table[i][j] && table[j][k] && !table[i][k] {
						t.Errorf("relation %d: %v, %v, %v", n, l[i], l[j], l[k])
					}
				}
			}
		}
	}
}

func checkPair(t *testing.T, x, y api.Form) {
	t.Helper()
	what := short([]any{x, y})
	same, e := sequence.Alike(sequence.Same, x, y)
	loose, f := sequence.Alike(sequence.Loose, x, y)
	equal(t, "Alike "+what, []any{same, e, loose, f}, []any{forms.Equal(x, y), 0, modelAlike(1, x, y), 0})
	if same && !loose {
		t.Errorf("%s are alike by Same alone", what)
	}
	for _, test := range []int{-1, 2} {
		is, e := sequence.Alike(test, x, y)
		equal(t, "Alike by no test", []any{is, e}, []any{false, api.ErrArg})
	}
	for order := -1; order <= 3; order++ {
		is, e := sequence.Less(order, x, y)
		want, code := false, api.OK
		switch {
		case order < 0 || order > 2:
			code = api.ErrArg
		case !modelOrdered(order, x) || !modelOrdered(order, y):
			code = api.ErrType
		default:
			want = modelLess(order, x, y)
		}
		equal(t, "Less "+what, []any{is, e}, []any{want, code})
		if back, _ := sequence.Less(order, y, x); is && back {
			t.Errorf("Less holds both ways for %s", what)
		}
	}
}
