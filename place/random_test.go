package place_test

import (
	"math/rand"
	"slices"
	"strconv"
	"testing"

	"commonform/api"
	"commonform/forms"
	"commonform/place"
)

// writer writes random places, whose subforms are (S 0), (S 1) and so on in their order.
type writer struct {
	r     *rand.Rand
	parts int
}

func integer(n int) api.Form { return api.Form{Kind: api.FormInt, Text: strconv.Itoa(n)} }

// subform returns the next one.
func (w *writer) subform() api.Form {
	w.parts++
	return forms.Call("S", []api.Form{integer(w.parts - 1)})
}

// sub returns a subform, or a constant.
func (w *writer) sub() api.Form {
	switch w.r.Intn(6) {
	case 0:
		return forms.Symbol("KEYWORD", "K")
	case 1:
		return forms.Call("QUOTE", []api.Form{forms.Symbol("", "Q")})
	}
	return w.subform()
}

func (w *writer) subs(n int) []api.Form {
	var l []api.Form
	for range n {
		l = append(l, w.sub())
	}
	return l
}

// place returns a place, with any number of values if that may be.
func (w *writer) place(depth int, any bool) api.Form {
	switch w.r.Intn(8) {
	case 0:
		return forms.Call([]string{"CAR", "CDR", "CADR", "CDDR", "SECOND", "THIRD"}[w.r.Intn(6)], w.subs(1))
	case 1:
		return forms.Call("AREF", w.subs(1+w.r.Intn(3)))
	case 2:
		return forms.Call("NTH", w.subs(2))
	case 3:
		return forms.List(append([]api.Form{forms.Symbol("U", "F")}, w.subs(w.r.Intn(3))...))
	case 4:
		if depth > 0 {
			return forms.Call("THE", []api.Form{forms.Symbol("U", "TYPE"), w.place(depth-1, any)})
		}
	case 5:
		if depth > 0 {
			n := 1
			if any {
				n = w.r.Intn(4)
			}
			return forms.Call("VALUES", w.places(n, depth-1, any))
		}
	case 6:
		return place.Fresh(w.r.Intn(5)) // that was there
	}
	return forms.Symbol("U", "X"+strconv.Itoa(w.r.Intn(3)))
}

func (w *writer) places(n, depth int, any bool) []api.Form {
	var l []api.Form
	for range n {
		l = append(l, w.place(depth, any))
	}
	return l
}

// macro returns a form that writes places.
func (w *writer) macro() api.Form {
	name := []string{"SETF", "PSETF", "INCF", "DECF", "PUSH", "PUSHNEW", "POP", "ROTATEF", "SHIFTF"}[w.r.Intn(9)]
	var l []api.Form
	switch name {
	case "SETF", "PSETF":
		for range w.r.Intn(4) {
			l = append(l, w.place(3, name == "SETF"), w.subform())
		}
	case "INCF", "DECF":
		l = append(l, w.place(3, false))
		l = append(l, w.subs(w.r.Intn(2))...)
	case "PUSH", "PUSHNEW":
		l = append(l, w.subform(), w.place(3, false))
	case "POP":
		l = w.places(1, 3, false)
	case "ROTATEF":
		l = w.places(w.r.Intn(4), 3, false)
	case "SHIFTF":
		l = append(w.places(1+w.r.Intn(3), 3, false), w.subform())
	}
	return forms.Call(name, l)
}

// occurring returns the numbers of subforms, and of fresh symbols, in the order in which they stand in a form.
func occurring(f api.Form) (parts, fresh []int) {
	if f.Home == "%" {
		n, _ := strconv.Atoi(f.Text)
		return nil, []int{n}
	}
	if f.Kind == api.FormCons && forms.Is(f.Kids[0], "COMMON-LISP", "S") {
		n, _ := strconv.Atoi(f.Kids[1].Text)
		return []int{n}, nil
	}
	for _, kid := range f.Kids {
		p, v := occurring(kid)
		parts, fresh = append(parts, p...), append(fresh, v...)
	}
	return parts, fresh
}

// moved returns a form whose fresh symbols from a number on have greater numbers.
func moved(f api.Form, from, by int) api.Form {
	if n, err := strconv.Atoi(f.Text); f.Home == "%" && err == nil && n >= from {
		return place.Fresh(n + by)
	}
	kids := f.Kids
	f.Kids = nil
	for _, kid := range kids {
		f.Kids = append(f.Kids, moved(kid, from, by))
	}
	return f
}

func upTo(n int) []int {
	var l []int
	for i := range n {
		l = append(l, i)
	}
	return l
}

// P23.2, P23.3: subforms stand once and in order, whatever the macro; new symbols are from fresh on, and nothing depends on their numbers.
func TestRandomMacros(t *testing.T) {
	r := rand.New(rand.NewSource(23))
	for range 5000 {
		w := &writer{r: r}
		f := w.macro()
		got, next, e := place.Macro(place.Standard(), f, 10)
		if e != api.OK {
			t.Fatalf("%s: %v", text(f), e)
		}
		parts, fresh := occurring(got)
		if !slices.Equal(parts, upTo(w.parts)) {
			t.Errorf("%s: %s has the subforms %v", text(f), text(got), parts)
		}
		_, there := occurring(f)
		for _, n := range fresh {
			if n >= next || n < 10 && !slices.Contains(there, n) {
				t.Errorf("%s: %s has the symbol %d; %d is next", text(f), text(got), n, next)
			}
		}
		other, after, e := place.Macro(place.Standard(), f, 5000)
		if e != api.OK || after-5000 != next-10 || !forms.Equal(other, moved(got, 10, 4990)) {
			t.Errorf("%s from 5000 on: %s, %d, %v", text(f), text(other), after, e)
		}
		if bound := letBound(got); len(bound) != len(slices.Compact(slices.Sorted(slices.Values(bound)))) {
			t.Errorf("%s: %s binds a symbol twice", text(f), text(got))
		}
	}
}

// letBound returns the numbers of the fresh symbols that are bound by LET* and MULTIPLE-VALUE-BIND.
func letBound(f api.Form) []int {
	var bound []int
	if f.Kind != api.FormCons {
		return nil
	}
	switch l, _ := forms.Items(f); {
	case len(l) > 1 && forms.Is(l[0], "COMMON-LISP", "LET*"):
		bindings, _ := forms.Items(l[1])
		for _, b := range bindings {
			n, _ := strconv.Atoi(b.Kids[0].Text)
			bound = append(bound, n)
		}
	case len(l) > 1 && forms.Is(l[0], "COMMON-LISP", "MULTIPLE-VALUE-BIND"):
		variables, _ := forms.Items(l[1])
		for _, v := range variables {
			n, _ := strconv.Atoi(v.Text)
			bound = append(bound, n)
		}
	}
	for _, kid := range f.Kids {
		bound = append(bound, letBound(kid)...)
	}
	return bound
}

// P23.2, P23.3, P23.4: the parts of random places.
func TestRandomPlaces(t *testing.T) {
	r := rand.New(rand.NewSource(234))
	for range 5000 {
		w := &writer{r: r}
		l := w.places(1+r.Intn(3), 3, true)
		f := forms.Call("VALUES", l)
		p, next, e := place.Expand(place.Standard(), f, 10)
		if e != api.OK {
			t.Fatalf("%s: %v", text(f), e)
		}
		if len(p.Temps) != len(p.Values) || slices.ContainsFunc(p.Values, place.Constant) {
			t.Errorf("%s: %s for %s", text(f), texts(p.Temps), texts(p.Values))
		}
		if parts, _ := occurring(forms.List(p.Values)); !slices.Equal(parts, upTo(w.parts)) {
			t.Errorf("%s: the values are %s", text(f), texts(p.Values))
		}
		_, taken := occurring(forms.List(append(p.Temps, p.Stores...)))
		slices.Sort(taken)
		for i, n := range taken {
			if n != 10+i {
				t.Errorf("%s: the symbols %v", text(f), taken)
			}
		}
		if next != 10+len(taken) {
			t.Errorf("%s: %d is next", text(f), next)
		}
		var stores []api.Form
		at := 10
		for _, inner := range l {
			q, after, e := place.Expand(place.Standard(), inner, at)
			fails(t, text(inner), e, api.OK)
			stores = append(stores, q.Stores...)
			at = after
		}
		if !slices.EqualFunc(stores, p.Stores, forms.Equal) || at != next {
			t.Errorf("%s: the stores are %s; want %s", text(f), texts(p.Stores), texts(stores))
		}
		q, after, e := place.Expand(place.Standard(), f, 5000)
		if e != api.OK || after-5000 != next-10 || !forms.Equal(q.Write, moved(p.Write, 10, 4990)) || !forms.Equal(q.Read, moved(p.Read, 10, 4990)) {
			t.Errorf("%s from 5000 on: %v, %d, %v", text(f), q, after, e)
		}
	}
}

// R4: results share no memory with arguments, nor with one another.
func TestMemory(t *testing.T) {
	f := form(t, "(psetf (aref (v) (i)) (list 1) (car (x)) (list 2))")
	l := place.Standard()
	got, _, _ := place.Macro(l, f, 0)
	want := text(got)
	p, _, _ := place.Expand(l, form(t, "(aref (v) (i))"), 0)
	scratch(got)
	if again, _, _ := place.Macro(l, f, 0); text(again) != want {
		t.Errorf("an expansion that was changed: %s; want %s", text(again), want)
	}
	value := text(p.Values[0])
	scratch(p.Temps[0])
	scratch(p.Read)
	scratch(p.Write)
	if text(p.Values[0]) != value {
		t.Error("parts of a place share memory")
	}
	longer, _ := place.Define(l, form(t, "(defsetf a b)"))
	longer[0].Reader.Text = "Z"
	if l[0].Reader.Text != "CAR" {
		t.Error("Define shares memory with its argument")
	}
}

// scratch overwrites all parts of a form.
func scratch(f api.Form) {
	for i := range f.Kids {
		scratch(f.Kids[i])
		f.Kids[i] = api.Form{Kind: api.FormString, Text: "scratched"}
	}
}
