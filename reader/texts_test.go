package reader_test

import (
	"math"
	"math/rand"
	"slices"
	"strings"
	"testing"
	"unicode/utf8"

	"commonform/api"
	"commonform/forms"
	"commonform/reader"
	"commonform/token"
)

// P7.1: the error of options.
func TestCheck(t *testing.T) {
	many := make([]string, 65)
	long := strings.Repeat("x", 101)
	change := func(f func(o *reader.Options)) reader.Options {
		o := reader.Standard("P")
		f(&o)
		return o
	}
	for i, c := range []struct {
		o    reader.Options
		want api.Errno
	}{
		{reader.Standard("P"), api.OK}, {reader.Standard(long[1:]), api.OK}, {change(func(o *reader.Options) { o.Base, o.Double = 36, true }), api.OK}, {change(func(o *reader.Options) { o.Base = 2 }), api.OK}, {change(func(o *reader.Options) { o.Features = slices.Repeat([]string{long[1:]}, 64) }), api.OK},
		{reader.Options{}, api.ErrArg}, {reader.Standard(""), api.ErrArg}, {change(func(o *reader.Options) { o.Base = 1 }), api.ErrArg}, {change(func(o *reader.Options) { o.Base = 37 }), api.ErrArg}, {change(func(o *reader.Options) { o.Table.Case = 4 }), api.ErrArg}, {change(func(o *reader.Options) { o.Table.Entries = make([]token.Entry, 65); o.Base = 0 }), api.ErrSize}, {change(func(o *reader.Options) {
			o.Table.Entries = []token.Entry{{Char: 'b', Kind: 1}, {Char: 'a', Kind: 1}}
			o.Base = 0
		}), api.ErrOrder},
		{change(func(o *reader.Options) { o.Features = many }), api.ErrSize}, {change(func(o *reader.Options) { o.Package, o.Features = "", many }), api.ErrArg}, {change(func(o *reader.Options) { o.Package, o.Features = long, []string{""} }), api.ErrSize}, {change(func(o *reader.Options) { o.Features = []string{"", long} }), api.ErrSize}, {change(func(o *reader.Options) { o.Features = []string{"A", ""} }), api.ErrArg}, {change(func(o *reader.Options) { o.Features = []string{"\xff", ""} }), api.ErrArg}, {change(func(o *reader.Options) { o.Package, o.Features = "\xff", []string{""} }), api.ErrArg}, {change(func(o *reader.Options) { o.Package = "\xff" }), api.ErrForm}, {change(func(o *reader.Options) { o.Features = []string{"A", "\xff"} }), api.ErrForm},
	} {
		if e := reader.Check(c.o); e != c.want {
			t.Errorf("Check of the options %d: %v; want %v", i, e, c.want)
		}
		if c.want == api.OK {
			continue
		}
		// all functions return this first, with the place 0
		_, a, e1 := reader.Read(c.o, "\xff", -1)
		_, b, e2 := reader.All(c.o, "\xff")
		_, d, e3 := reader.One(c.o, "\xff")
		x, y, e4 := reader.Blank(c.o, "\xff", -1)
		if a+b+d+x+y != 0 || e1 != c.want || e2 != c.want || e3 != c.want || e4 != c.want {
			t.Errorf("the options %d: %v, %v, %v, %v; want %v", i, e1, e2, e3, e4, c.want)
		}
	}
	want := reader.Options{Package: "X", Base: 10}
	if o := reader.Standard("X"); o.Package != want.Package || o.Base != want.Base || o.Double || len(o.Features)+len(o.Table.Entries)+o.Table.Case > 0 {
		t.Errorf("Standard = %v", o)
	}
}

// P7.1: the errors of texts and places.
func TestTextErrors(t *testing.T) {
	long := strings.Repeat(" ", api.MaxSource+1)
	for _, c := range []struct {
		s    string
		at   int
		want api.Errno
	}{{long, -1, api.ErrSize}, {long, 0, api.ErrSize}, {"\xff", -1, api.ErrForm}, {"a\xc3", 0, api.ErrForm}, {"a", -1, api.ErrArg}, {"a", 2, api.ErrArg}, {"é", 1, api.ErrArg}, {"", math.MaxInt, api.ErrArg}} {
		r, at, e := reader.Read(options(), c.s, c.at)
		if !empty(r) || at != 0 || e != c.want {
			t.Errorf("Read(%.20q, %d): %d, %v; want %v", c.s, c.at, at, e, c.want)
		}
		place, at, e := reader.Blank(options(), c.s, c.at)
		if place != 0 || at != 0 || e != c.want {
			t.Errorf("Blank(%.20q, %d): %d, %d, %v; want %v", c.s, c.at, place, at, e, c.want)
		}
		if c.want == api.ErrArg {
			continue
		}
		l, at, e := reader.All(options(), c.s)
		r, place, f := reader.One(options(), c.s)
		if l != nil || at != 0 || e != c.want || !empty(r) || place != 0 || f != c.want {
			t.Errorf("All and One of %.20q: %d, %v, %d, %v; want %v", c.s, at, e, place, f, c.want)
		}
	}
	if l, at, e := reader.All(options(), long[1:]); len(l) != 0 || at != 0 || e != api.OK {
		t.Errorf("All of the longest text: %d, %v", at, e)
	}
}

// P7.1: blanks.
func TestBlank(t *testing.T) {
	for _, c := range []struct {
		o        reader.Options
		s        string
		at, want int
	}{
		{options(), "", 0, 0}, {options(), "a", 0, 0}, {options(), "a", 1, 1}, {options(), " \t\n\f\ra", 0, 5}, {options(), ";x\ny", 0, 3}, {options(), ";x", 0, 2}, {options(), " ; ; \n; \n\n(", 0, 10}, {options(), "#|x|#y", 0, 5}, {options(), "#|x#|y|#|# z", 0, 11}, {options(), "#|x|##|y|#;\n", 0, 12}, {options(), "#1|x|#", 0, 0}, {options(), "#+none a", 0, 0}, {options(), "# |", 0, 0}, {options(), "a #|b|# c", 1, 8}, {options(), "a;b", 1, 3}, {options(), ")", 0, 0}, {options(), "\x01", 0, 0}, {options(), "#", 0, 0},
		{with(map[rune]int{';': token.Constituent}), " ;a", 0, 1}, {with(map[rune]int{';': token.White}), " ;a", 0, 2}, {with(map[rune]int{';': token.Nonterminating}), " ;a", 0, 3}, {with(map[rune]int{'#': token.Invalid}), "#|a|#", 0, 0}, {with(map[rune]int{'#': token.Terminating, '|': token.Constituent}), "#|a|#", 0, 5}, {with(map[rune]int{'#': token.White}), "#|a|#", 0, 1},
	} {
		if got, at, e := reader.Blank(c.o, c.s, c.at); got != c.want || at != 0 || e != api.OK {
			t.Errorf("Blank(%v, %q, %d) = %d, %d, %v; want %d", c.o.Table, c.s, c.at, got, at, e, c.want)
		}
	}
	for _, s := range []string{"#|", " #|a|", "#|#|a|#", ";\n#|;"} {
		if got, at, e := reader.Blank(options(), s, 0); got != 0 || at != len(s) || e != api.ErrEnd {
			t.Errorf("Blank(%q) = %d, %d, %v", s, got, at, e)
		}
	}
}

// P7.1: all forms, and the only one.
func TestAll(t *testing.T) {
	l, at, e := reader.All(options(), " a (b) #+none c ;d\n'#1=e #1=f")
	want := []reader.Result{
		{Form: sym("A"), References: []reader.Reference{{Home: "P", Name: "A", At: 1}}, From: 1, To: 2},
		{Form: list(sym("B")), References: []reader.Reference{{Home: "P", Name: "B", At: 4}}, From: 3, To: 6},
		{Form: list(lisp("QUOTE"), label("1", sym("E"))), References: []reader.Reference{{Home: "P", Name: "E", At: 23}}, From: 19, To: 24},
		{Form: label("1", sym("F")), References: []reader.Reference{{Home: "P", Name: "F", At: 28}}, From: 25, To: 29},
	}
	if at != 0 || e != api.OK || !slices.EqualFunc(l, want, sameResult) {
		t.Errorf("All = %v, %d, %v", l, at, e)
	}
	for s, want := range map[string]struct {
		n, at int
		e     api.Errno
	}{
		"": {0, 0, api.OK}, " ;a": {0, 0, api.OK}, "a": {1, 0, api.OK}, "a b": {2, 0, api.OK}, "a(b)\"c\"'d": {4, 0, api.OK}, "(a)(b)": {2, 0, api.OK}, "a )": {0, 2, reader.ErrClose}, "a (b": {0, 4, api.ErrEnd}, "(#1=a) #1=b": {2, 0, api.OK}, "(#1=a) #1#": {0, 7, forms.ErrLabel}, "a #|": {0, 4, api.ErrEnd}, "a b:": {0, 2, token.ErrMarker}, "a #999(#9(b))": {0, 2, api.ErrSize},
	} {
		l, at, e := reader.All(options(), s)
		if len(l) != want.n || at != want.at || e != want.e {
			t.Errorf("All(%q) = %v, %d, %v", s, l, at, e)
		}
	}
	for s, want := range map[string]struct {
		at int
		e  api.Errno
	}{
		"": {0, api.ErrNone}, " ;a": {3, api.ErrNone}, " a ;b\n#|c|# #+none d": {0, api.OK}, "a b": {2, api.ErrTwice}, "a;\n(b)": {3, api.ErrTwice}, "a #+none b c": {11, api.ErrTwice}, "(a": {2, api.ErrEnd}, ")": {0, reader.ErrClose}, "a )": {2, reader.ErrClose}, "a #|": {4, api.ErrEnd}, "#1=(a)": {0, api.OK},
	} {
		r, at, e := reader.One(options(), s)
		if at != want.at || e != want.e || empty(r) != (e != api.OK) {
			t.Errorf("One(%q) = %v, %d, %v", s, r, at, e)
		}
	}
}

// blanks are what may stand between tokens.
var blanks = []string{" ", "\n", "\t \f\r", ";x)\"\n", " #|(|# ", "\n#|a#|b|#c|#\n", ";|#\n;\n", "#||##|\"|#"}

// P7.2: blanks around a form and between its parts change neither it nor its symbols.
func TestBlanks(t *testing.T) {
	r := rand.New(rand.NewSource(71))
	for range 4000 {
		tokens := anyTokens(r)
		s := text(tokens)
		want, at, e := reader.One(options(), s)
		if e != api.OK && e != reader.ErrComma && e != forms.ErrLabel && e != api.ErrSize {
			t.Fatalf("One(%q): %d, %v", s, at, e)
		}
		wide := blanks[r.Intn(len(blanks))]
		for _, x := range tokens {
			// (a token would go on with #)
			wide += x + strings.Replace(" "+blanks[r.Intn(len(blanks))], "  ", " ", 1)
		}
		got, _, f := reader.One(options(), wide)
		if f != e || !forms.Equal(got.Form, want.Form) || !sameNames(got.References, want.References) {
			t.Fatalf("%q is %v, %v; %q is %v, %v", s, want, e, wide, got, f)
		}
		if e != api.OK {
			continue
		}
		// the text ahead of the place, and behind To
		front, end := anyText(r, 5), []string{" ", ")", "\n", "(", "\"", ";"}[r.Intn(6)]+anyText(r, 5)
		there, _, f := reader.Read(options(), front+s+end, len(front))
		if f != api.OK || !sameResult(there, moved(want, len(front))) {
			t.Fatalf("%q is %v; in %q it is %v, %v", s, want, front+s+end, there, f)
		}
	}
}

func sameNames(a, b []reader.Reference) bool {
	return slices.EqualFunc(a, b, func(x, y reader.Reference) bool {
		return x.Home == y.Home && x.Name == y.Name && x.External == y.External
	})
}

// P7.3: sequences of forms.
func TestSequences(t *testing.T) {
	r := rand.New(rand.NewSource(72))
	read := 0
	for range 6000 {
		a, b := anyText(r, 12), anyText(r, 12)
		if r.Intn(2) == 0 {
			a, b = text(anyTokens(r))+" "+text(anyTokens(r)), text(anyTokens(r))
		}
		first, _, e := reader.All(options(), a)
		if e != api.OK {
			continue
		}
		read++
		second, at, e := reader.All(options(), b)
		both, place, f := reader.All(options(), a+"\n"+b)
		if e != f || e != api.OK && place != at+len(a)+1 {
			t.Fatalf("%q: %v at %d; behind %q: %v at %d", b, e, at, a, f, place)
		}
		if e != api.OK {
			continue
		}
		if len(both) != len(first)+len(second) {
			t.Fatalf("%q and %q have %d and %d forms, together %d", a, b, len(first), len(second), len(both))
		}
		for i, x := range both {
			var want reader.Result
			if i < len(first) {
				want = first[i]
			} else {
				want = moved(second[i-len(first)], len(a)+1)
			}
			if !sameResult(x, want) {
				t.Fatalf("%q: the form %d is %v; want %v", a+"\n"+b, i, x, want)
			}
			again, _, e := reader.Read(options(), a+"\n"+b, x.From)
			if e != api.OK || !sameResult(again, x) {
				t.Fatalf("%q from %d on: %v, %v; want %v", a+"\n"+b, x.From, again, e, x)
			}
		}
	}
	if read < 2000 {
		t.Errorf("just %d texts", read)
	}
}

// lastToken reports whether a text may end within a token, or behind a dispatch character: there another error may stand.
func lastToken(s string) bool {
	c, _ := utf8.DecodeLastRuneInString(s)
	return !strings.ContainsRune(" \n()'`\"", c)
}

// P7.4: beginnings of texts, and the places of errors.
func TestBeginnings(t *testing.T) {
	r := rand.New(rand.NewSource(73))
	for range 3000 {
		s := text(anyTokens(r))
		if _, _, e := reader.All(options(), s); e != api.OK {
			continue
		}
		for i := range s {
			_, at, e := reader.All(options(), s[:i])
			if e == api.OK {
				continue
			}
			if e != api.ErrEnd && !lastToken(s[:i]) || e == api.ErrEnd && at != i || at > i {
				t.Fatalf("All(%q): %v at %d", s[:i], e, at)
			}
		}
	}
	for range 30000 {
		s := anyText(r, 14)
		at := r.Intn(len(s) + 1)
		if at < len(s) && !utf8.RuneStart(s[at]) {
			continue
		}
		x, place, e := reader.Read(options(), s, at)
		switch {
		case e == api.OK && (place != 0 || x.From < at || x.To <= x.From || x.To > len(s)), e != api.OK && (!empty(x) || place < at || place > len(s)), e == api.ErrEnd && place != len(s):
			t.Fatalf("Read(%q, %d) = %v, %d, %v", s, at, x, place, e)
		}
	}
}

// written returns the symbols of a form that were written in its text; marks, QUOTE and the ends of lists are none.
func written(f api.Form) []api.Form {
	var l []api.Form
	if f.Kind == api.FormSymbol && f.Home != "" && f.Home != "COMMON-LISP" && f.Home != "READER" {
		l = append(l, f)
	}
	for _, kid := range f.Kids {
		l = append(l, written(kid)...)
	}
	return l
}

// P7.5: what is read is right, and its references name its symbols, in their order.
func TestReadForms(t *testing.T) {
	r := rand.New(rand.NewSource(74))
	read := 0
	for range 30000 {
		s := anyText(r, 14)
		if r.Intn(2) == 0 {
			s = text(anyTokens(r))
		}
		x, _, e := reader.Read(options(), s, 0)
		if e != api.OK {
			continue
		}
		read++
		if e := forms.Check(x.Form); e != api.OK {
			t.Fatalf("Read(%q) = %v: %v", s, x, e)
		}
		repeats := strings.Contains(s, "#3(")
		l := written(x.Form)
		for _, ref := range x.References {
			there, _, e := token.Next(options().Table, s, ref.At)
			name, f := token.Split(there)
			if e != api.OK || f != api.OK || name.Name != ref.Name || ref.External != (name.Kind == token.External) || !slices.ContainsFunc(l, func(f api.Form) bool { return forms.Is(f, ref.Home, ref.Name) }) {
				t.Fatalf("Read(%q) = %v: no %v", s, x, ref)
			}
		}
		if repeats {
			continue
		}
		same := slices.EqualFunc(l, x.References, func(f api.Form, ref reader.Reference) bool { return forms.Is(f, ref.Home, ref.Name) })
		if !same {
			t.Fatalf("Read(%q) = %v", s, x)
		}
	}
	if read < 10000 {
		t.Errorf("just %d texts", read)
	}
}

// P1: no function panics, whatever the readtable.
func TestGarbage(t *testing.T) {
	r := rand.New(rand.NewSource(75))
	chars := []rune("aAsu01.:+-/#\\|\"'(), ;`@\n\x01$*=")
	for range 30000 {
		o := options()
		o.Table.Case, o.Base = r.Intn(4), 2+r.Intn(35)
		for range r.Intn(5) {
			o.Table, _ = token.Set(o.Table, chars[r.Intn(len(chars))], r.Intn(7))
		}
		s := anyText(r, 16)
		x, at, e := reader.Read(o, s, 0)
		if e == api.OK && (at != 0 || forms.Check(x.Form) != api.OK) || e != api.OK && (!empty(x) || at < 0 || at > len(s)) {
			t.Fatalf("Read(%v, %q) = %v, %d, %v", o, s, x, at, e)
		}
		reader.All(o, s)
		reader.One(o, s)
		reader.Blank(o, s, 0)
		if e == api.OK {
			reader.Backquote(x.Form)
			reader.Feature(x.Form, o.Features)
			reader.Array(r.Intn(10)-1, x.Form)
		}
	}
}
