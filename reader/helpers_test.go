package reader_test

import (
	"fmt"
	"maps"
	"math/rand"
	"slices"
	"strconv"
	"strings"
	"testing"

	"commonform/api"
	"commonform/forms"
	"commonform/reader"
	"commonform/token"
)

func node(kind int, text string, kids ...api.Form) api.Form {
	return api.Form{Kind: kind, Text: text, Kids: kids}
}

func integer(s string) api.Form { return node(api.FormInt, s) }

func char(s string) api.Form { return node(api.FormChar, s) }

func str(s string) api.Form { return node(api.FormString, s) }

func bits(s string) api.Form { return node(api.FormBits, s) }

func vector(l ...api.Form) api.Form { return node(api.FormVector, "", l...) }

func label(n string, f api.Form) api.Form { return node(api.FormLabel, n, f) }

func ref(n string) api.Form { return node(api.FormRef, n) }

// sym returns a symbol of the package in which texts are read here.
func sym(name string) api.Form { return forms.Symbol("P", name) }

func lisp(name string) api.Form { return forms.Symbol("COMMON-LISP", name) }

func key(name string) api.Form { return forms.Symbol("KEYWORD", name) }

func mark(name string) api.Form { return forms.Symbol("READER", name) }

func list(l ...api.Form) api.Form { return forms.List(l) }

// cons returns a list whose last element is its tail.
func cons(l ...api.Form) api.Form { return forms.Dotted(l[:len(l)-1], l[len(l)-1]) }

func back(f api.Form) api.Form { return list(mark("BACKQUOTE"), f) }

func comma(f api.Form) api.Form { return list(mark("COMMA"), f) }

func splice(f api.Form) api.Form { return list(mark("SPLICE"), f) }

// options returns those that are used here: the package P, and two features.
func options() reader.Options {
	o := reader.Standard("P")
	o.Features = []string{"SMALL", "OLD"}
	return o
}

// read returns the only form of a text.
func read(t *testing.T, s string) api.Form {
	t.Helper()
	r, at, e := reader.One(options(), s)
	if e != api.OK {
		t.Fatalf("One(%q): %v at %d", s, e, at)
	}
	return r.Form
}

func empty(r reader.Result) bool {
	return r.Form.Kind == 0 && len(r.Form.Kids) == 0 && len(r.References) == 0 && r.From == 0 && r.To == 0
}

func sameResult(a, b reader.Result) bool {
	return forms.Equal(a.Form, b.Form) && slices.Equal(a.References, b.References) && a.From == b.From && a.To == b.To
}

// moved returns a result that stands so many bytes further behind.
func moved(r reader.Result, by int) reader.Result {
	r.From, r.To = r.From+by, r.To+by
	r.References = slices.Clone(r.References)
	for i := range r.References {
		r.References[i].At += by
	}
	return r
}

// with returns options with characters of other kinds.
func with(kinds map[rune]int) reader.Options {
	o := options()
	for _, c := range slices.Sorted(maps.Keys(kinds)) {
		o.Table, _ = token.Set(o.Table, c, kinds[c])
	}
	return o
}

// writer makes random texts of forms without errors, as lists of tokens.
type writer struct {
	r     *rand.Rand
	level int // of backquotes
	next  int // the number of the next label
	met   []string
}

func (w *writer) pick(l ...string) string { return l[w.r.Intn(len(l))] }

func (w *writer) atom() []string {
	return []string{w.pick("a", "Foo", ":k", "q:x", "q::y", "#:g", "|a b|", "c\\;d", "12", "-1/2", "1.5", "1d3", "\"s ; #|\"", "\"\\\"\"", "#\\a", "#\\Space", "#\\(", "#*101", "#*", "#x-ff", "#3r21", "nil", "()", "#c(1 2)")}
}

// form returns the tokens of a form.
func (w *writer) form(depth int) []string {
	if depth == 0 {
		return w.atom()
	}
	switch w.r.Intn(14) {
	case 0:
		return append([]string{"'"}, w.form(depth-1)...)
	case 1:
		return append([]string{"#'"}, w.form(depth-1)...)
	case 2, 3, 4, 5:
		return w.list("(", depth, w.r.Intn(4))
	case 6:
		l := w.list("(", depth, 1+w.r.Intn(2))
		l = append(l[:len(l)-1], ".")
		return append(append(l, w.form(depth-1)...), ")")
	case 7:
		return w.list("#(", depth, w.r.Intn(3))
	case 8:
		w.level++
		defer func() { w.level-- }()
		return append([]string{"`"}, w.form(depth-1)...)
	case 9:
		if w.level > 0 {
			w.level--
			defer func() { w.level++ }()
			return append([]string{w.pick(",", ",@")}, w.form(depth-1)...)
		}
	case 10:
		return w.features(depth)
	case 11:
		if w.next < 1000 {
			n := strconv.Itoa(w.next)
			w.next++
			w.met = append(w.met, n)
			return append([]string{"#" + n + "="}, w.list("(", depth, 1+w.r.Intn(2))...)
		}
	case 12:
		if len(w.met) > 0 {
			return []string{"#" + w.met[w.r.Intn(len(w.met))] + "#"}
		}
	}
	return w.atom()
}

func (w *writer) list(begin string, depth, n int) []string {
	l := []string{begin}
	for range n {
		l = append(l, w.form(depth-1)...)
	}
	return append(l, ")")
}

// features returns a form with a condition ahead of it; what is left out has labels that are forgotten.
func (w *writer) features(depth int) []string {
	there := w.r.Intn(2) == 0
	l := []string{"#+", w.pick("small", "(or :small none)", "(and)", "(not none)")}
	if !there {
		l = []string{"#-", w.pick("small", "(and small old)")}
	}
	met, next := slices.Clone(w.met), w.next
	l = append(l, w.form(depth-1)...)
	if !there {
		w.met, w.next = met, next
		l = append(l, w.form(depth-1)...)
	}
	return l
}

// anyTokens returns the tokens of a random form.
func anyTokens(r *rand.Rand) []string {
	w := &writer{r: r}
	return w.form(1 + r.Intn(4))
}

// glued reports whether two tokens would be read as one, or otherwise, without a blank between them. (Some that would not stand apart here, too.)
func glued(a, b string) bool {
	ends := strings.HasSuffix(a, "(") || strings.HasSuffix(a, ")") || strings.HasSuffix(a, "\"") || a == "'" || a == "#'" || a == "`" || strings.HasSuffix(a, "=")
	begins := strings.HasPrefix(b, "(") || strings.HasPrefix(b, ")") || strings.HasPrefix(b, "\"") || b == "'" || b == "`" || strings.HasPrefix(b, ",")
	return (!ends || strings.HasPrefix(a, "#\\")) && !begins
}

// text returns the text of tokens, with as little between them as may be.
func text(l []string) string {
	s := ""
	for i, x := range l {
		if i > 0 && glued(l[i-1], x) {
			s += " "
		}
		s += x
	}
	return s
}

// anyText returns a random text of characters and parts that matter to the reader.
func anyText(r *rand.Rand, n int) string {
	parts := []string{"(", "(", ")", ")", " ", " ", "a", "b", ".", "'", "`", ",", ",@", "\"", ";", "\n", "#", "#(", "#'", "#\\", "#:", "#*", "#x", "#b", "#o", "#3r", "#c", "#2a", "#1a", "#0a", "#|", "|#", "#+", "#-", "#1=", "#1#", "#2=", "#2#", "#3(", "1", "0", "10", "/", "1.5", ":", "::", "|", "\\", "small", "not", "and", "é", "\x01", "@", "space", "$"}
	s := ""
	for range r.Intn(n) {
		s += parts[r.Intn(len(parts))]
	}
	return s
}

// short returns the beginning of the text of a value.
func short(x any) string { return fmt.Sprintf("%.200s", fmt.Sprint(x)) }
