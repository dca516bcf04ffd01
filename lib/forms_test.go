package lib_test

import (
	"fmt"
	"math/rand"
	"strings"
	"testing"

	"commonform/api"
	"commonform/forms"
	"commonform/heap"
	"commonform/lib"
)

// P20.1, P20.2: Show of Build is Normal of the form.
func TestBuild(t *testing.T) {
	w := newWorld(t)
	for _, s := range []string{
		"x", "car", ":k", "nil", "5", "-5", "1152921504606846975", "1152921504606846976", "-1152921504606846976", "-1152921504606846977", "100000000000000000000000", "1/2", "1.5", "1.5d0", "#c(1 2)", "#c(1.0 2.0)", "#c(100000000000000000000 1/2)",
		"#\\a", "#\\ä", "\"\"", "\"aä\"", "#*", "#*101", "(1 2)", "(1 . 2)", "(1 (2 . x) . 3)", "#()", "#(1 #(2))", "#0a5", "#2a((1 2) (3 4))", "#2a(() ())", "#3a(((1 x) (\"a\" 2)))",
		"#1=(a . #1#)", "(#1=(a) #1#)", "(#1=\"a\" #1#)", "#1=#(#1# #1#)", "(a . #1=(b . #1#))", "(#1=(a) . #1#)", "((b . #1=(a)) . #1#)", "#1=#2a((#1# 1))", "(#1=#*1 #2=#(#1# #2#) #1#)", "(#1=100000000000000000000 #1#)", "(#1=x #1#)", "(#1=#c(1 2) #1#)", "(#1=a #2=(b #1# . #2#))", "(#1=(1 2 3) (0 . #1#))",
	} {
		f := form(t, s)
		x, e := w.Build(f)
		fails(t, "Build of "+s, e, api.OK)
		got, e := w.Show(x)
		want, _ := forms.Normal(canonical(f))
		equal(t, "Show of "+s, []any{got, e}, []any{want, api.OK})
	}
	h := w.Heap()
	for s, kind := range map[string]int{"5": 0, "100000000000000000000": heap.KindInt, "1/2": heap.KindRatio, "1.5": heap.KindSingle, "1d0": heap.KindDouble, "#c(1 2)": heap.KindComplex, "\"a\"": heap.KindString, "#*1": heap.KindBits, "(1)": heap.KindCons, "#(1)": heap.KindVector, "#2a((1))": heap.KindArray, "x": heap.KindSymbol, "#\\a": 0} {
		equal(t, "the kind of "+s, h.Kind(object(t, w, s)), kind)
	}
	x := object(t, w, "#2a((1 2 3) (4 5 6))")
	dimensions, _ := h.Get(x, 0)
	elements, _ := h.Get(x, 1)
	equal(t, "an array", []any{h.Len(x), h.Kind(dimensions), text(w, dimensions), text(w, elements)}, []any{2, heap.KindVector, "#(2 3)", "#(1 2 3 4 5 6)"})
	// symbols without a home: one for each name in a form, and another one in the next form
	x = object(t, w, "(#:a #:b #:a)")
	y := object(t, w, "#:a")
	first, _ := h.Get(x, 0)
	equal(t, "symbols without a home", []any{text(w, x), text(w, y)}, []any{"(#:a #:b #:a)", "#:a"})
	third := answer(t, w, "NTH", fix(2), x).Values[0]
	if first != third || first == y {
		t.Error("symbols without a home")
	}
	value, _ := w.Value(first)
	equal(t, "its value", value, heap.Unbound)
	// what is shared is one object
	x = object(t, w, "(#1=100000000000000000000 #1#)")
	a, b := answer(t, w, "NTH", fix(0), x).Values[0], answer(t, w, "NTH", fix(1), x).Values[0]
	equal(t, "a shared number", a, b)
}

// canonical gives symbols the homes that they have in a new world.
func canonical(f api.Form) api.Form {
	if f.Home == "COMMON-LISP-USER" && (f.Text == "CAR" || f.Text == "NIL") {
		f.Home = "COMMON-LISP"
	}
	kids := f.Kids
	f.Kids = nil
	for _, kid := range kids {
		f.Kids = append(f.Kids, canonical(kid))
	}
	return f
}

// P20.1: errors of Build come ahead of all changes.
func TestBuildErrors(t *testing.T) {
	long := strings.Repeat("x", 61)
	list := func(l ...api.Form) api.Form { return forms.List(l) }
	for _, c := range []struct {
		f    api.Form
		want api.Errno
	}{
		{api.Form{Kind: 99}, api.ErrForm}, {api.Form{Kind: api.FormRef, Text: "0"}, 30}, {list(user(long), api.Form{Kind: 99}), api.ErrForm},
		{list(user("NEWER"), user(long)), api.ErrSize}, {list(forms.Symbol("", "NEWER"), forms.Symbol("", long)), api.ErrSize}, {list(user("NEWER"), forms.Symbol("NOWHERE", "X")), api.ErrNone}, {forms.Symbol("NOWHERE", long), api.ErrSize}, {list(forms.Symbol("NOWHERE", "X"), user(long)), api.ErrNone}, {forms.Symbol(long, "X"), api.ErrSize}, {list(forms.Symbol("%", "UNBOUND")), api.ErrNone},
		{api.Form{Kind: api.FormString, Text: strings.Repeat("x", 131073)}, api.ErrWords}, {list(user("NEWER"), api.Form{Kind: api.FormString, Text: strings.Repeat("x", 600000)}), api.ErrWords},
	} {
		w := newWorld(t)
		before, used := w.Symbols().Text(), w.Heap().Used()
		x, e := w.Build(c.f)
		equal(t, short(c.f), []any{x, e, w.Symbols().Text() == before, w.Heap().Used()}, []any{0, c.want, true, used})
	}
	if x, e := newWorld(t).Build(api.Form{Kind: api.FormString, Text: strings.Repeat("x", 131072)}); e != api.OK || x == 0 {
		t.Errorf("the longest string: %v", e)
	}
}

// P20.1: Build finds out ahead whether there is room: it needs just what it takes, and changes nothing without it.
func TestBuildRoom(t *testing.T) {
	texts := []string{"\"a\"", "\"12345678\"", "\"123456789\"", "(1 2 . x)", "#2a((1 2) (3 4))", "#0a#c(1 2)", "#c(100000000000000000000 1/2)", "(newer newer cl-user::newer newest :k #:a #:b #:a)", "(car sequence cl::sequence cl-user::sequence)", "#1=(1.5 2d0 . #1#)", "#(#*1 \"\" #\\a 1152921504606846976 5)", "(#1=(newer) #1# #2=\"abc\" #2#)"}
	for _, s := range texts {
		w := newWorld(t)
		used := w.Heap().Used()
		f := form(t, s)
		if _, e := w.Build(f); e != api.OK {
			t.Errorf("Build of %s: %v", s, e)
		}
		need := w.Heap().Used() - used
		for _, left := range []int{need - 1, need} {
			w := newWorld(t)
			fill(w, left)
			before, used := w.Symbols().Text(), w.Heap().Used()
			equal(t, "the room that is left", w.Heap().Limit()-used, left)
			_, e := w.Build(f)
			if left == need {
				equal(t, s, []any{e, w.Heap().Used()}, []any{api.OK, w.Heap().Limit()})
			} else {
				equal(t, s, []any{e, w.Symbols().Text() == before, w.Heap().Used()}, []any{api.ErrWords, true, used})
			}
		}
	}
	w := newWorld(t)
	n := 0
	for {
		if _, _, e := w.Symbols().Intern("COMMON-LISP-USER", fmt.Sprint("S", n)); e != api.OK {
			break
		}
		n++
	}
	before := w.Symbols().Text()
	for _, s := range []string{"newer", "(1 #:a)", ":k"} {
		x, e := w.Build(form(t, s))
		equal(t, "Build of a full table", []any{x, e, w.Symbols().Text() == before}, []any{0, api.ErrFull, true})
	}
	if _, e := w.Build(form(t, "(car |S0| sequence)")); e != api.OK {
		t.Errorf("Build of symbols that are there: %v", e)
	}
	w = newWorld(t)
	for range n - 2 {
		w.Symbols().Fresh("X")
	}
	before = w.Symbols().Text()
	_, e := w.Build(form(t, "(newer :k #:a newer)"))
	equal(t, "one symbol too many", []any{e, w.Symbols().Text() == before}, []any{api.ErrFull, true})
	_, e = w.Build(form(t, "(newer :k :k newer cl-user::newer)"))
	fails(t, "just as many as can be", e, api.OK)
}

// P20.1: what is shown of objects that no form makes.
func TestShow(t *testing.T) {
	w := newWorld(t)
	h := w.Heap()
	names := strings.Fields("TABLE ENTRY CLOSURE CLOSURE BUILTIN CLASS INSTANCE GENERIC METHOD WEAK PACKAGE BOX EPHEMERON OBJECT OBJECT OBJECT OBJECT OBJECT OBJECT")
	for i, name := range names {
		x, _ := h.New(heap.KindTable+i, 3)
		f, e := w.Show(x)
		equal(t, "Show", []any{f, e}, []any{forms.Symbol("%", name), api.OK})
		f, e = w.Show(cons(w, x, cons(w, x, heap.Unbound)))
		equal(t, "Show of several", []any{f, e}, []any{forms.Dotted([]api.Form{forms.Symbol("%", name), forms.Symbol("%", name)}, forms.Symbol("%", "UNBOUND")), api.OK})
	}
	for _, bad := range []heap.Word{4, 10, heap.Word(1<<40 | 3)} {
		f, e := w.Show(bad)
		equal(t, "a bad word", []any{f, e}, []any{api.Form{}, heap.ErrWord})
	}
	raw := func(kind int, bytes string) heap.Word { x, _ := h.Raw(kind, bytes); return x }
	fields := func(kind int, l ...heap.Word) heap.Word {
		x, _ := h.New(kind, len(l))
		for i, y := range l {
			h.Set(x, i, y)
		}
		return x
	}
	vector := fields(heap.KindVector, fix(1))
	loop := fields(heap.KindComplex, fix(1), fix(2))
	h.Set(loop, 0, loop)
	deep, wide, many, shared := heap.Nil, heap.Nil, heap.Nil, heap.Nil
	for i := range 1001 {
		if i < 99 {
			deep = cons(w, deep, heap.Nil)
		}
		x := fields(heap.KindVector)
		wide = cons(w, fix(i), cons(w, fix(i), wide))
		if i < 700 {
			many = cons(w, x, cons(w, x, many))
		}
		shared = cons(w, x, shared)
	}
	for i, c := range []struct {
		x    heap.Word
		want string
	}{
		{raw(heap.KindString, "\xff"), "?4"}, {raw(heap.KindInt, "x"), "?4"}, {raw(heap.KindInt, "007"), "?4"}, {raw(heap.KindRatio, "2/4"), "?4"}, {raw(heap.KindBits, "12"), "?4"}, {raw(heap.KindSingle, "3f80000"), "?4"}, {raw(heap.KindComplex, "x"), "?4"}, {raw(heap.KindCons, "ab"), "?4"}, {raw(heap.KindArray, "ab"), "?4"}, {raw(heap.KindVector, "ab"), "?4"},
		{fields(heap.KindInt), "?4"}, {fields(heap.KindString, fix(1)), "?4"}, {fields(heap.KindCons, fix(1)), "?4"}, {fields(heap.KindCons, fix(1), fix(2), fix(3)), "?4"}, {fields(heap.KindComplex, fix(1)), "?4"}, {fields(heap.KindComplex, fix(1), fix(0)), "?4"}, {fields(heap.KindComplex, fix(1), heap.Nil), "?4"}, {loop, "?4"},
		{fields(heap.KindArray, vector, vector), "?4"}, {fields(heap.KindArray, vector), "?4"}, {fields(heap.KindArray, fix(1), vector), "?4"}, {fields(heap.KindArray, fields(heap.KindVector), fields(heap.KindVector)), "?4"}, {fields(heap.KindArray, fields(heap.KindVector, fix(1), fix(-1)), fields(heap.KindVector)), "?4"}, {fields(heap.KindArray, fields(heap.KindVector, fix(1), fix(1)), fix(1)), "?4"}, {fields(heap.KindArray, fields(heap.KindVector, fix(1), fix(1)), vector), "#2A((1))"}, {fields(heap.KindArray, fields(heap.KindVector, fix(1<<32), fix(1<<32)), fields(heap.KindVector)), "?4"},
		{cons(w, raw(heap.KindString, "\xff"), heap.Nil), "?4"}, {fields(heap.KindVector, loop), "?4"}, {wide, "?4"}, {cons(w, deep, deep), "?4"}, {many, "?4"}, {fields(heap.KindVector, shared, shared), "?4"},
	} {
		if got := text(w, c.x); got != c.want && !(c.want != "?4" && got != "?4") {
			t.Errorf("object %d is shown as %s; want %s", i, got, c.want)
		}
	}
	f, e := w.Show(deep)
	_, depth := forms.Size(f)
	equal(t, "the deepest form", []any{depth, e}, []any{100, api.OK})
	long := heap.Nil
	for range 1998 {
		long = cons(w, fix(1), long)
	}
	f, e = w.Show(long)
	nodes, _ := forms.Size(f)
	equal(t, "the longest list", []any{nodes, e}, []any{2000, api.OK})
	equal(t, "a longer one", text(w, cons(w, fix(1), long)), "?4")
}

// P20.2: Show of Build of random forms is their Normal; Build of Show makes a similar object.
func TestShowOfBuild(t *testing.T) {
	r := rand.New(rand.NewSource(202))
	w := newWorld(t)
	right := 0
	for range 4000 {
		if w.Heap().Used() > 50000 {
			w = newWorld(t)
		}
		labels := 0
		f := anyForm(r, 4, &labels)
		if forms.Check(f) != api.OK { // labels of parts that were thrown away
			continue
		}
		right++
		x, e := w.Build(f)
		fails(t, short(f), e, api.OK)
		want, _ := forms.Normal(f)
		got, e := w.Show(x)
		equal(t, "Show of Build of "+short(f), []any{got, e}, []any{want, api.OK})
		y, e := w.Build(got)
		fails(t, "Build of Show", e, api.OK)
		again, _ := w.Show(y)
		equal(t, "Show of Build of Show", again, want)
	}
	if right < 2000 {
		t.Errorf("only %d forms", right)
	}
}

// anyForm returns a random form with labels from 0 on.
func anyForm(r *rand.Rand, depth int, labels *int) api.Form {
	atoms := []api.Form{user("X"), user("Y"), forms.Nil(), forms.Symbol("KEYWORD", "K"), integer("5"), integer("100000000000000000000"), {Kind: api.FormRatio, Text: "1/2"}, {Kind: api.FormSingle, Text: "3f800000"}, {Kind: api.FormChar, Text: "a"}, {Kind: api.FormString, Text: "a"}, {Kind: api.FormBits, Text: "10"}, {Kind: api.FormComplex, Kids: []api.Form{integer("1"), integer("2")}}}
	if *labels > 0 && r.Intn(4) == 0 {
		return api.Form{Kind: api.FormRef, Text: fmt.Sprint(r.Intn(*labels))}
	}
	if depth == 0 || r.Intn(4) == 0 {
		return atoms[r.Intn(len(atoms))]
	}
	if r.Intn(4) == 0 {
		f := api.Form{Kind: api.FormLabel, Text: fmt.Sprint(*labels)}
		*labels++
		kid := anyForm(r, depth-1, labels)
		for kid.Kind == api.FormRef || kid.Kind == api.FormLabel {
			kid = atoms[r.Intn(len(atoms))]
		}
		f.Kids = []api.Form{kid}
		return f
	}
	var kids []api.Form
	for range r.Intn(4) {
		kids = append(kids, anyForm(r, depth-1, labels))
	}
	switch r.Intn(4) {
	case 0:
		return api.Form{Kind: api.FormVector, Kids: kids}
	case 1:
		return api.Form{Kind: api.FormArray, Text: fmt.Sprint("1 ", len(kids)), Kids: kids}
	case 2:
		if len(kids) > 0 {
			return forms.Dotted(kids, anyForm(r, 0, labels))
		}
	}
	return forms.List(kids)
}

// P20.3, P20.4: random calls answer the same in a world whose objects are laid anew in between; calls that end with a fault change nothing.
func TestCollections(t *testing.T) {
	r := rand.New(rand.NewSource(203))
	names := lib.Names()
	faults, answers := 0, 0
	for round := range 25 {
		still, moved := newWorld(t), newWorld(t)
		var here, there []int // roots of the objects of both worlds
		add := func(x, y heap.Word) {
			here, there = append(here, still.Heap().Root(x)), append(there, moved.Heap().Root(y))
		}
		for _, s := range []string{"x", "y", "nil", "1", "-3", "0", "1/2", "1.5", "#c(1 2)", "#\\a", "\"ab\"", "\"cl\"", "#*10", "(1 2 3)", "((x . 1) (y . 2))", "(x . y)", "#1=(1 . #1#)", "#(1 2)", "#2a((1 2))", "car", "list", "equal", "\"X\"", "integer"} {
			add(object(t, still, s), object(t, moved, s))
		}
		for range 250 {
			name := names[r.Intn(len(names))]
			var a, b []heap.Word
			least, most, _ := lib.Arity(name)
			if most < 0 {
				most = least + 2
			}
			for range least + r.Intn(most-least+1) {
				i := r.Intn(len(here))
				x, _ := still.Heap().At(here[i])
				y, _ := moved.Heap().At(there[i])
				a, b = append(a, x), append(b, y)
			}
			before := worldText(t, still, here)
			one := answer(t, still, name, a...)
			two := answer(t, moved, name, b...)
			what := name + " of " + texts(still, a)
			equal(t, what, answered(moved, two), answered(still, one))
			equal(t, "the output behind "+what, moved.Output(), still.Output())
			if one.Kind == lib.AnswerFault {
				faults++
				equal(t, "what there was ahead of the fault of "+what, worldText(t, still, here)[:len(before)], before)
			}
			if one.Kind == lib.AnswerValues && len(one.Values) == len(two.Values) {
				answers++
				for i, x := range one.Values {
					if _, isFixnum := x.Fixnum(); !isFixnum && len(here) < 80 {
						add(x, two.Values[i])
					}
				}
			}
			if r.Intn(3) == 0 {
				shuffle(t, r, moved)
			}
		}
		equal(t, fmt.Sprint("the packages of round ", round), moved.Symbols().Text(), still.Symbols().Text())
	}
	if faults < 600 || answers < 1800 {
		t.Errorf("%d faults, %d answers", faults, answers)
	}
}

// worldText returns the graph of all that a world and some roots have.
func worldText(t *testing.T, w *lib.World, roots []int) string {
	t.Helper()
	var l []heap.Word
	for _, root := range roots {
		x, _ := w.Heap().At(root)
		l = append(l, x)
	}
	cells, fields, e := w.Heap().Cells(l)
	fails(t, "Cells", e, api.OK)
	return fmt.Sprint(cells, fields)
}

// shuffle lays all objects that are met from roots anew, in any order.
func shuffle(t *testing.T, r *rand.Rand, w *lib.World) {
	t.Helper()
	h := w.Heap()
	seen := map[heap.Word]bool{}
	var all, left []heap.Word
	for _, root := range h.Roots() {
		x, _ := h.At(root)
		left = append(left, x)
	}
	left = append(left, heap.Nil)
	for len(left) > 0 {
		x := left[0]
		left = left[1:]
		if h.Place(x) < 0 || seen[x] {
			continue
		}
		seen[x] = true
		if x != heap.Nil {
			all = append(all, x)
		}
		for i := range h.Len(x) {
			y, _ := h.Get(x, i)
			left = append(left, y)
		}
	}
	r.Shuffle(len(all), func(i, k int) { all[i], all[k] = all[k], all[i] })
	cut := r.Intn(len(all) + 1)
	fails(t, "Keep", h.Keep(all[:cut], all[cut:]), api.OK)
}

// P20.1: without room a call answers that, and counts and interns nothing; the same call behind a collection does it once.
func TestRoom(t *testing.T) {
	r := rand.New(rand.NewSource(204))
	for _, c := range []struct{ call, want string }{
		{"(gensym)", "#:g0"}, {"(gensym \"ABCDEFGHIJKLMNOP\")", "#:abcdefghijklmnop0"}, {"(intern \"NEWER\")", "newer nil"}, {"(intern \"CAR\")", "car :inherited"}, {"(find-symbol \"SEQUENCE\" \"CL\")", "sequence :external"}, {"(make-symbol \"A\")", "#:a"}, {"(cons 1 2)", "(1 . 2)"}, {"(list 1 2 3)", "(1 2 3)"}, {"(+ 1152921504606846975 1)", "1152921504606846976"}, {"(floor 100000000000000000000001/2)", "50000000000000000000000 1/2"}, {"(complex 1 2)", "#C(1 2)"}, {"(concat \"a\" \"b\")", "\"ab\""}, {"(symbol-name car)", "\"CAR\""}, {"(vector 1 2)", "#(1 2)"}, {"(make-array (2 2))", "#2A((nil nil) (nil nil))"}, {"(make-hash-table eq)", "%::table"}, {"(read-from-string \"(newer #:a)\")", "(newer #:a)"}, {"(format nil \"x\")", "\"x\""}, {"(append (1 2) 3)", "(1 2 . 3)"}, {"(car 5)", "! TYPE-ERROR 5 list"}, {"(length 5)", "! TYPE-ERROR 5 sequence"}, {"(intern \"X\" \"NOWHERE\")", "! PACKAGE-ERROR \"NOWHERE\""}, {"(prin1-to-string (1))", "\"(1)\""}, {"(array-dimensions \"a\")", "(1)"},
	} {
		for left := 0; left < 60; left += 1 + r.Intn(3) {
			w := newWorld(t)
			x := object(t, w, c.call)
			w.Heap().Root(x)
			fill(w, left)
			before := w.Symbols().Text()
			call := func() string {
				roots := w.Heap().Roots()
				l, _ := w.Heap().At(roots[len(roots)-1])
				f, _ := w.Heap().Get(l, 0)
				l, _ = w.Heap().Get(l, 1)
				var args []heap.Word
				for l != heap.Nil {
					x, _ := w.Heap().Get(l, 0)
					l, _ = w.Heap().Get(l, 1)
					args = append(args, x)
				}
				a := w.Call(f, args)
				if a.Kind == lib.AnswerLimit && a.Code == api.ErrWords {
					return "full"
				}
				return answered(w, a)
			}
			got := call()
			if got == "full" {
				equal(t, "the packages behind "+c.call, w.Symbols().Text(), before)
				shuffle(t, r, w)
				got = call()
			}
			equal(t, c.call, got, c.want)
		}
	}
}

// P20.5: laws of lists.
func TestListLaws(t *testing.T) {
	r := rand.New(rand.NewSource(205))
	w := newWorld(t)
	for range 300 {
		if w.Heap().Used() > 50000 {
			w = newWorld(t)
		}
		var a, b []heap.Word
		for range r.Intn(8) {
			a = append(a, fix(r.Intn(100)))
		}
		for range r.Intn(8) {
			b = append(b, fix(r.Intn(100)))
		}
		x, y := answer(t, w, "LIST", a...).Values[0], answer(t, w, "LIST", b...).Values[0]
		both := answer(t, w, "APPEND", x, y).Values[0]
		equal(t, "LENGTH of APPEND", answered(w, answer(t, w, "LENGTH", both)), fmt.Sprint(len(a)+len(b)))
		for _, z := range []heap.Word{answer(t, w, "REVERSE", answer(t, w, "REVERSE", x).Values[0]).Values[0], answer(t, w, "COPY-LIST", x).Values[0], answer(t, w, "SUBSEQ", x, 0).Values[0]} {
			equal(t, "EQUAL", answered(w, answer(t, w, "EQUAL", z, x)), "t")
			if len(a) > 0 && z == x {
				t.Error("the list is no new one")
			}
		}
		for i := range a {
			equal(t, "NTH of LIST", answer(t, w, "NTH", fix(i), x).Values, a[i:i+1])
		}
		c := answer(t, w, "CONS", x, y).Values[0]
		equal(t, "CAR and CDR of CONS", []any{answer(t, w, "CAR", c).Values, answer(t, w, "CDR", c).Values}, []any{[]heap.Word{x}, []heap.Word{y}})
		last := answer(t, w, "LAST", both).Values[0]
		if len(b) > 0 {
			equal(t, "LAST of APPEND", last, answer(t, w, "LAST", y).Values[0])
		}
		args := []heap.Word{x, y}
		v := answer(t, w, "VALUES", args...).Values
		v[0] = 0
		equal(t, "arguments behind a change of values", args, []heap.Word{x, y})
	}
}

// P20.1: objects that others have made, of any kind and with any parts, make no builtin function fail in a way that is not specified.
func TestForged(t *testing.T) {
	r := rand.New(rand.NewSource(206))
	names := lib.Names()
	for range 30 {
		w := newWorld(t)
		h := w.Heap()
		l := []heap.Word{heap.Nil, heap.Unbound, 0, fix(1), fix(-2), 97<<3 | 1, symbol(t, w, "COMMON-LISP", "EQUAL"), symbol(t, w, "COMMON-LISP", "APPLY"), object(t, w, "\"x\""), object(t, w, "(1 2)")}
		for range 60 {
			x, _ := h.New(1+r.Intn(31), r.Intn(6))
			if r.Intn(4) == 0 {
				x, _ = h.Raw(1+r.Intn(31), []string{"", "1", "-5", "1/2", "\xff", "3f800000", "ab", "0101"}[r.Intn(8)])
			}
			l = append(l, x)
		}
		for _, x := range l {
			for i := range h.Len(x) {
				if h.Kind(x) != heap.KindSymbol || h.Len(x) != 5 {
					h.Set(x, i, l[r.Intn(len(l))])
				}
			}
		}
		for range 1500 {
			name := names[r.Intn(len(names))]
			least, most, _ := lib.Arity(name)
			if most < 0 {
				most = least + 3
			}
			var args []heap.Word
			for range least + r.Intn(most-least+1) {
				args = append(args, l[r.Intn(len(l))])
			}
			a := answer(t, w, name, args...)
			if a.Kind == lib.AnswerLimit && a.Code != api.ErrWords && a.Code != api.ErrDepth && a.Code != api.ErrLarge && a.Code != api.ErrFull {
				t.Errorf("%s of %v: limit %v", name, args, a.Code)
			}
			for _, x := range args {
				w.Show(x)
			}
		}
	}
}
