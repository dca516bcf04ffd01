package printer_test

import (
	"fmt"
	"math/rand"
	"strconv"
	"strings"

	"commonform/api"
	"commonform/forms"
	"commonform/printer"
	"commonform/token"
)

func node(kind int, text string, kids ...api.Form) api.Form {
	return api.Form{Kind: kind, Text: text, Kids: kids}
}

func integer(s string) api.Form { return node(api.FormInt, s) }

func char(s string) api.Form { return node(api.FormChar, s) }

func str(s string) api.Form { return node(api.FormString, s) }

func bits(s string) api.Form { return node(api.FormBits, s) }

func vector(l ...api.Form) api.Form { return node(api.FormVector, "", l...) }

func array(dimensions string, l ...api.Form) api.Form {
	return node(api.FormArray, dimensions, l...)
}

func label(n string, f api.Form) api.Form { return node(api.FormLabel, n, f) }

func ref(n string) api.Form { return node(api.FormRef, n) }

func user(name string) api.Form { return forms.Symbol("COMMON-LISP-USER", name) }

func lisp(name string) api.Form { return forms.Symbol("COMMON-LISP", name) }

func mark(name string, l ...api.Form) api.Form {
	return list(append([]api.Form{forms.Symbol("READER", name)}, l...)...)
}

func call(name string, l ...api.Form) api.Form { return forms.Call(name, l) }

func list(l ...api.Form) api.Form { return forms.List(l) }

// cons returns a list whose last element is its tail.
func cons(l ...api.Form) api.Form { return forms.Dotted(l[:len(l)-1], l[len(l)-1]) }

// usual returns the usual options of COMMON-LISP-USER, changed by functions.
func usual(changes ...func(o *printer.Options)) printer.Options {
	o := printer.Standard("COMMON-LISP-USER")
	o.Uses = []string{"COMMON-LISP"}
	for _, change := range changes {
		change(&o)
	}
	return o
}

func bare(o *printer.Options)     { o.Escape = false }
func circle(o *printer.Options)   { o.Circle = true }
func readable(o *printer.Options) { o.Readable = true }
func names(o *printer.Options)    { o.Array = false }
func whole(o *printer.Options)    { o.Abbrev = false }
func radix(o *printer.Options)    { o.Radix = true }
func double(o *printer.Options)   { o.Double = true }

func level(n int) func(o *printer.Options)  { return func(o *printer.Options) { o.Level = n } }
func length(n int) func(o *printer.Options) { return func(o *printer.Options) { o.Length = n } }
func base(n int) func(o *printer.Options)   { return func(o *printer.Options) { o.Base = n } }

func mode(n int) func(o *printer.Options) { return func(o *printer.Options) { o.Table.Case = n } }

// kind gives a character another kind.
func kind(c rune, kind int) func(o *printer.Options) {
	return func(o *printer.Options) { o.Table, _ = token.Set(o.Table, c, kind) }
}

// maker makes random forms that are right, of all kinds.
type maker struct {
	r    *rand.Rand
	next int      // the number of the next label
	met  []string // the labels to which the walk came
}

func (m *maker) pick(l ...string) string { return l[m.r.Intn(len(l))] }

func (m *maker) atom() api.Form {
	name := m.pick("A", "FOO", "foo", "Bar", "1+", "12", "1E5", "..", "", "A B", "a|b", "x\\y", "A:B", ":", "#A", "@B", "é", "NIL", "\x01", "$", "FF", "-", "+1", "T")
	switch m.r.Intn(12) {
	case 0, 1, 2, 3:
		return forms.Symbol(m.pick("P", "P", "Q", "q r", "KEYWORD", "", "COMMON-LISP", "12", "READER"), name)
	case 4:
		return char(m.pick("a", "A", " ", "\n", "\x00", "\x01", "\x7f", "\u0085", "\u009f", "é", "(", "\\", "\"", "|", "$", "\u00a0", "☺"))
	case 5:
		return str(m.pick("", "a", "a\"b", "\\", "|", "\n ;", "$é\x01", "@"))
	case 6:
		return bits(m.pick("", "0", "1", "0110"))
	case 7:
		return node(api.FormSingle, m.pick("3f800000", "80000000", "3dcccccd", "7149f2ca"))
	case 8:
		return node(api.FormDouble, m.pick("3ff0000000000000", "bfb999999999999a", "0000000000000001"))
	case 9:
		return node(api.FormComplex, "", integer("12"), node(api.FormRatio, "-1/15"))
	case 10:
		return node(api.FormRatio, m.pick("1/2", "-17/16"))
	}
	return integer(m.pick("0", "12", "-255", "123456789012345678901234567890"))
}

// form returns a form; plain says that it has to be no label and no reference, and tail that it has to be no FormCons.
func (m *maker) form(depth int, plain, tail bool) api.Form {
	choice := m.r.Intn(12)
	switch {
	case !plain && choice < 2 && len(m.met) > 0:
		return ref(m.met[m.r.Intn(len(m.met))])
	case !plain && choice < 3 && m.next < 900:
		text := strconv.Itoa(999 - m.next)
		m.next++
		m.met = append(m.met, text)
		return label(text, m.form(depth, true, false))
	case depth == 0 || choice < 6:
		return m.atom()
	case choice < 8 && !tail:
		kids := m.kids(depth, 1+m.r.Intn(3))
		return cons(append(kids, m.form(depth-1, false, true))...)
	case choice < 10 && !tail:
		x := m.form(depth-1, false, false)
		return list([]api.Form{lisp("QUOTE"), lisp("FUNCTION"), forms.Symbol("READER", "BACKQUOTE"), forms.Symbol("READER", "COMMA"), forms.Symbol("READER", "SPLICE"), lisp("LIST")}[m.r.Intn(6)], x)
	case choice < 11:
		return vector(m.kids(depth, m.r.Intn(4))...)
	}
	switch m.r.Intn(5) {
	case 0:
		return array("", m.kids(depth, 1)...)
	case 1:
		return array("2 0 0")
	}
	return array("2 1 2", m.kids(depth, 4)...)
}

func (m *maker) kids(depth, n int) []api.Form {
	var kids []api.Form
	for range n {
		kid := m.form(depth-1, false, false)
		kids = append(kids, kid)
	}
	return kids
}

// anyForm returns a random form that is right.
func anyForm(r *rand.Rand) api.Form { return (&maker{r: r}).form(1+r.Intn(5), false, false) }

// has reports whether a form has a node of one of these kinds.
func has(f api.Form, kinds ...int) bool {
	for _, kind := range kinds {
		if f.Kind == kind {
			return true
		}
	}
	for _, kid := range f.Kids {
		if has(kid, kinds...) {
			return true
		}
	}
	return false
}

// anyOptions returns random options.
func anyOptions(r *rand.Rand) printer.Options {
	o := printer.Standard([]string{"P", "Q", "KEYWORD"}[r.Intn(3)])
	o.Base, o.Table.Case = []int{2, 8, 10, 10, 10, 16, 36}[r.Intn(7)], r.Intn(4)
	o.Radix, o.Double, o.Abbrev, o.Circle, o.Escape = r.Intn(2) == 0, r.Intn(2) == 0, r.Intn(3) > 0, r.Intn(2) == 0, r.Intn(4) > 0
	for range r.Intn(4) {
		chars := []rune("$!@*=<|\\\x01\x7fé^_~")
		o.Table, _ = token.Set(o.Table, chars[r.Intn(len(chars))], r.Intn(7))
	}
	o.External = []printer.External{{Home: "Q", Name: "FOO"}, {Home: "Q", Name: "foo"}, {Home: "q r", Name: "A"}}
	return o
}

func long(n int) string { return strings.Repeat("x", n) }

// short returns the beginning of the text of a value.
func short(x any) string { return fmt.Sprintf("%.200s", fmt.Sprint(x)) }
