package forms_test

import (
	"math/rand"
	"strconv"
	"testing"

	"commonform/api"
	"commonform/forms"
)

func leaf(kind int, text string) api.Form { return api.Form{Kind: kind, Text: text} }

func node(kind int, text string, kids ...api.Form) api.Form {
	return api.Form{Kind: kind, Text: text, Kids: kids}
}

func integer(s string) api.Form { return leaf(api.FormInt, s) }

func str(s string) api.Form { return leaf(api.FormString, s) }

func sym(name string) api.Form { return forms.Symbol("COMMON-LISP-USER", name) }

// cons returns a list whose last element is its tail.
func cons(l ...api.Form) api.Form { return node(api.FormCons, "", l...) }

func list(l ...api.Form) api.Form { return cons(append(l, forms.Nil())...) }

func vector(l ...api.Form) api.Form { return node(api.FormVector, "", l...) }

func label(n string, f api.Form) api.Form { return node(api.FormLabel, n, f) }

func ref(n string) api.Form { return leaf(api.FormRef, n) }

// nested returns vectors within each other, of this depth.
func nested(depth int) api.Form {
	f := vector()
	for range depth - 1 {
		f = vector(f)
	}
	return f
}

// many returns n times the same form.
func many(n int, f api.Form) []api.Form {
	l := make([]api.Form, n)
	for i := range l {
		l[i] = f
	}
	return l
}

func equal(t *testing.T, what string, got, want api.Form) {
	t.Helper()
	if !forms.Equal(got, want) {
		t.Errorf("%s = %.300v; want %.300v", what, got, want)
	}
}

func empty(f api.Form) bool {
	return f.Kind == 0 && f.Text == "" && f.Home == "" && len(f.Kids) == 0
}

// maker makes random forms that are right: with labels that are used or not, within what they name or behind it.
type maker struct {
	r    *rand.Rand
	next int      // the number of the next label
	met  []string // the labels to which the walk came
}

func (m *maker) atom() api.Form {
	switch m.r.Intn(9) {
	case 0, 1:
		return sym(string(rune('A' + m.r.Intn(3))))
	case 2:
		return forms.Nil()
	case 3:
		return integer(strconv.Itoa(m.r.Intn(3)))
	case 4:
		return node(api.FormComplex, "", integer(strconv.Itoa(m.r.Intn(2))), leaf(api.FormRatio, "1/2"))
	case 5:
		return leaf(api.FormChar, string(rune('a'+m.r.Intn(2))))
	case 6:
		return leaf(api.FormBits, "01"[:m.r.Intn(3)])
	}
	return str("xy"[:m.r.Intn(3)])
}

// form returns a form; plain says that it has to be no label and no reference, and tail that it has to be no FormCons.
func (m *maker) form(depth int, plain, tail bool) api.Form {
	choice := m.r.Intn(10)
	switch {
	case !plain && choice < 2 && len(m.met) > 0:
		return ref(m.met[m.r.Intn(len(m.met))])
	case !plain && choice < 4 && m.next < 900:
		text := strconv.Itoa(999 - m.next)
		m.next++
		m.met = append(m.met, text)
		return label(text, m.form(depth, true, false))
	case depth == 0 || choice < 6:
		return m.atom()
	case choice < 8 && !tail:
		var kids []api.Form
		for range 1 + m.r.Intn(3) {
			kid := m.form(depth-1, false, false)
			kids = append(kids, kid)
		}
		last := m.form(depth-1, false, true)
		return cons(append(kids, last)...)
	case choice < 9:
		return vector(m.kids(depth, m.r.Intn(4))...)
	}
	return node(api.FormArray, "2 2", m.kids(depth, 4)...)
}

func (m *maker) kids(depth, n int) []api.Form {
	var kids []api.Form
	for range n {
		kid := m.form(depth-1, false, false)
		kids = append(kids, kid)
	}
	return kids
}

// random returns random forms, all of them right.
func random(t *testing.T, seed int64, n int) []api.Form {
	t.Helper()
	r := rand.New(rand.NewSource(seed))
	var l []api.Form
	for range n {
		m := &maker{r: r}
		f := m.form(1+r.Intn(5), false, false)
		if e := forms.Check(f); e != api.OK {
			t.Fatalf("Check(%v) = %v", f, e)
		}
		l = append(l, f)
	}
	return l
}

// labels returns the number of labels of a form.
func labels(f api.Form) int {
	n := 0
	if f.Kind == api.FormLabel {
		n++
	}
	for _, kid := range f.Kids {
		n += labels(kid)
	}
	return n
}

// renamed returns the form with other labels.
func renamed(f api.Form) api.Form {
	if f.Kind == api.FormLabel || f.Kind == api.FormRef {
		n, _ := strconv.Atoi(f.Text)
		f.Text = strconv.Itoa((n*7 + 3) % 1000)
	}
	var kids []api.Form
	for _, kid := range f.Kids {
		kids = append(kids, renamed(kid))
	}
	f.Kids = kids
	return f
}
