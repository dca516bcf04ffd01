package place_test

import (
	"fmt"
	"slices"
	"strings"
	"testing"

	"commonform/api"
	"commonform/forms"
	"commonform/place"
	"commonform/printer"
	"commonform/reader"
)

func fails(t *testing.T, what string, got, want api.Errno) {
	t.Helper()
	if got != want {
		t.Errorf("%s: %v; want %v", what, got, want)
	}
}

// numbered makes G0, G1 and so on the fresh symbols with these numbers.
func numbered(f api.Form) api.Form {
	if digits, ok := strings.CutPrefix(f.Text, "G"); ok && f.Kind == api.FormSymbol && digits != "" && strings.Trim(digits, "0123456789") == "" {
		return forms.Symbol("%", digits)
	}
	for i, kid := range f.Kids {
		f.Kids[i] = numbered(kid)
	}
	return f
}

// form reads a form whose symbols are those of COMMON-LISP.
func form(t *testing.T, text string) api.Form {
	t.Helper()
	r, at, e := reader.One(reader.Standard("COMMON-LISP"), text)
	if e != api.OK {
		t.Fatalf("%s: %v at %d", text, e, at)
	}
	return numbered(r.Form)
}

// lettered makes fresh symbols G0, G1 and so on.
func lettered(f api.Form) api.Form {
	if f.Home == "%" {
		return forms.Symbol("COMMON-LISP", "G"+f.Text)
	}
	kids := f.Kids
	f.Kids = nil
	for _, kid := range kids {
		f.Kids = append(f.Kids, lettered(kid))
	}
	return f
}

func text(f api.Form) string {
	s, e := printer.Print(printer.Standard("COMMON-LISP"), lettered(f))
	if e != api.OK {
		return fmt.Sprint("?", e, f)
	}
	return s
}

func texts(l []api.Form) string {
	var all []string
	for _, f := range l {
		all = append(all, text(f))
	}
	return strings.Join(all, " ")
}

func same(t *testing.T, what string, got, want api.Form) {
	t.Helper()
	if !forms.Equal(got, want) {
		t.Errorf("%s: %s; want %s", what, text(got), text(want))
	}
}

// P23.1: the expansions of all macros, and the next fresh number.
func TestMacro(t *testing.T) {
	for _, c := range []struct {
		from, to string
		next     int
	}{
		{"(setf)", "nil", 0},
		{"(setf x 1)", "(setq x 1)", 0},
		{"(setf x 1 (car y) 2 z 3)", "(progn (setq x 1) (let* ((g0 y) (g1 2)) (progn (rplaca g0 g1) g1)) (setq z 3))", 2},
		{"(setf (car x) y)", "(let* ((g0 x) (g1 y)) (progn (rplaca g0 g1) g1))", 2},
		{"(setf (car 'x) 1)", "(let* ((g0 1)) (progn (rplaca 'x g0) g0))", 1},
		{"(setf (car '(x . y)) 1)", "(let* ((g0 1)) (progn (rplaca '(x . y) g0) g0))", 1},
		{"(setf (cdr (f)) 1)", "(let* ((g0 (f)) (g1 1)) (progn (rplacd g0 g1) g1))", 2},
		{"(setf (first x) 1)", "(let* ((g0 x) (g1 1)) (progn (rplaca g0 g1) g1))", 2},
		{"(setf (rest x) 1)", "(let* ((g0 x) (g1 1)) (progn (rplacd g0 g1) g1))", 2},
		{"(setf (aref v i 0 :k nil t \"s\" #\\c 1.5 #(a) (quote)) 1)", "(let* ((g0 v) (g1 i) (g2 (quote)) (g3 1)) (progn (%aset g0 g1 0 :k nil t \"s\" #\\c 1.5 #(a) g2 g3) g3))", 4},
		{"(setf (svref v i) 1)", "(let* ((g0 v) (g1 i) (g2 1)) (progn (%aset g0 g1 g2) g2))", 3},
		{"(setf (gethash k h d) 1)", "(let* ((g0 k) (g1 h) (g2 d) (g3 1)) (progn (%puthash g0 g1 g2 g3) g3))", 4},
		{"(setf (symbol-value s) 1)", "(let* ((g0 s) (g1 1)) (progn (set g0 g1) g1))", 2},
		{"(setf (symbol-function s) 1)", "(let* ((g0 s) (g1 1)) (progn (%fset g0 g1) g1))", 2},
		{"(setf (fdefinition s) 1)", "(let* ((g0 s) (g1 1)) (progn (%fset g0 g1) g1))", 2},
		{"(setf (slot-value x 's) 1)", "(let* ((g0 x) (g1 1)) (progn (%set-slot-value g0 's g1) g1))", 2},
		{"(setf (nth n x) 1)", "(let* ((g0 (nthcdr n x)) (g1 1)) (progn (rplaca g0 g1) g1))", 2},
		{"(setf (second x) 1)", "(let* ((g0 (cdr x)) (g1 1)) (progn (rplaca g0 g1) g1))", 2},
		{"(setf (third x) 1)", "(let* ((g0 (cdr (cdr x))) (g1 1)) (progn (rplaca g0 g1) g1))", 2},
		{"(setf (caar x) 1)", "(let* ((g0 (car x)) (g1 1)) (progn (rplaca g0 g1) g1))", 2},
		{"(setf (cadr x) 1)", "(let* ((g0 (cdr x)) (g1 1)) (progn (rplaca g0 g1) g1))", 2},
		{"(setf (cdar x) 1)", "(let* ((g0 (car x)) (g1 1)) (progn (rplacd g0 g1) g1))", 2},
		{"(setf (cddr x) 1)", "(let* ((g0 (cdr x)) (g1 1)) (progn (rplacd g0 g1) g1))", 2},
		{"(setf (f) 1)", "(let* ((g0 1)) (progn (|(SETF F)| g0) g0))", 1},
		{"(setf (u::f x 2 y) 1)", "(let* ((g0 x) (g1 y) (g2 1)) (progn (u::|(SETF F)| g2 g0 2 g1) g2))", 3},
		{"(setf (u::nth x) 1)", "(let* ((g0 x) (g1 1)) (progn (u::|(SETF NTH)| g1 g0) g1))", 2},
		{"(setf (quote x) 1)", "(let* ((g0 x) (g1 1)) (progn (|(SETF QUOTE)| g1 g0) g1))", 2},
		{"(setf (the integer x) 1)", "(let* ((g0 1)) (setq x g0))", 1},
		{"(setf (values) (f))", "(let* () (multiple-value-bind () (f) (values)))", 0},
		{"(setf (values a) (f))", "(let* ((g0 (f))) (values (setq a g0)))", 1},
		{"(setf (values a (car x)) (f))", "(let* ((g1 x)) (multiple-value-bind (g0 g2) (f) (values (setq a g0) (progn (rplaca g1 g2) g2))))", 3},
		{"(setf (values (values a b) (the t c)) (f))", "(let* () (multiple-value-bind (g0 g1 g2) (f) (values (values (setq a g0) (setq b g1)) (setq c g2))))", 3},
		{"(psetf)", "(let* () nil)", 0},
		{"(psetf x 1)", "(let* ((g0 1)) (setq x g0) nil)", 1},
		{"(psetf a b (car b) a)", "(let* ((g0 b) (g1 b) (g2 a)) (setq a g0) (progn (rplaca g1 g2) g2) nil)", 3},
		{"(incf x)", "(let* ((g0 (+ x 1))) (setq x g0))", 1},
		{"(incf (the integer x) 2)", "(let* ((g0 (+ (the integer x) 2))) (setq x g0))", 1},
		{"(incf (aref v 0) n)", "(let* ((g0 v) (g2 n) (g1 (+ (aref g0 0) g2))) (progn (%aset g0 0 g1) g1))", 3},
		{"(incf (values x) 'y)", "(let* ((g0 (+ (values x) 'y))) (values (setq x g0)))", 1},
		{"(decf x)", "(let* ((g0 (- x 1))) (setq x g0))", 1},
		{"(decf x (f))", "(let* ((g1 (f)) (g0 (- x g1))) (setq x g0))", 2},
		{"(push 1 l)", "(let* ((g0 1) (g1 (cons g0 l))) (setq l g1))", 2},
		{"(push v (car x))", "(let* ((g0 v) (g1 x) (g2 (cons g0 (car g1)))) (progn (rplaca g1 g2) g2))", 3},
		{"(pushnew 1 l)", "(let* ((g0 1) (g2 l)) (if (member g0 g2) g2 (let* ((g1 (cons g0 g2))) (setq l g1))))", 3},
		{"(pushnew v (car x))", "(let* ((g0 v) (g1 x) (g3 (car g1))) (if (member g0 g3) g3 (let* ((g2 (cons g0 g3))) (progn (rplaca g1 g2) g2))))", 4},
		{"(pop l)", "(let* ((g1 l) (g0 (cdr g1))) (setq l g0) (car g1))", 2},
		{"(pop (car x))", "(let* ((g0 x) (g2 (car g0)) (g1 (cdr g2))) (progn (rplaca g0 g1) g1) (car g2))", 3},
		{"(rotatef)", "nil", 0},
		{"(rotatef x)", "(let* ((g0 x)) (setq x g0) nil)", 1},
		{"(rotatef a (car b))", "(let* ((g1 b) (g0 (car g1)) (g2 a)) (setq a g0) (progn (rplaca g1 g2) g2) nil)", 3},
		{"(rotatef a b c)", "(let* ((g0 b) (g1 c) (g2 a)) (setq a g0) (setq b g1) (setq c g2) nil)", 3},
		{"(shiftf a 1)", "(let* ((g1 a) (g0 1)) (setq a g0) g1)", 2},
		{"(shiftf (car a) b (f))", "(let* ((g0 a) (g3 (car g0)) (g1 b) (g2 (f))) (progn (rplaca g0 g1) g1) (setq b g2) g3)", 4},
	} {
		got, next, e := place.Macro(place.Standard(), form(t, c.from), 0)
		fails(t, c.from, e, api.OK)
		same(t, c.from, got, form(t, c.to))
		if next != c.next {
			t.Errorf("%s: %d is next; want %d", c.from, next, c.next)
		}
	}
}

// P23.1: the first error counts, and everything else is zero then.
func TestErrors(t *testing.T) {
	large := "(setf (car x) '(" + strings.Repeat("1 ", 1980) + "))"
	for _, c := range []struct {
		text  string
		fresh int
		macro api.Errno
		place api.Errno
	}{
		{"x", 0, api.ErrForm, api.OK}, {"5", 0, api.ErrForm, place.ErrPlace}, {"nil", 0, api.ErrForm, place.ErrPlace}, {"t", 0, api.ErrForm, place.ErrPlace}, {":k", 0, api.ErrForm, place.ErrPlace},
		{"\"setf\"", 0, api.ErrForm, place.ErrPlace}, {"#(a)", 0, api.ErrForm, place.ErrPlace}, {"()", 0, api.ErrForm, place.ErrPlace},
		{"(setf . x)", 0, api.ErrForm, place.ErrPlace}, {"(car . x)", 0, api.ErrForm, place.ErrPlace}, {"(f x . y)", 0, api.ErrForm, place.ErrPlace},
		{"((f) x)", 0, api.ErrForm, place.ErrPlace}, {"(:f x)", 0, api.ErrForm, place.ErrPlace}, {"(nil x)", 0, api.ErrForm, place.ErrPlace}, {"(5 x)", 0, api.ErrForm, place.ErrPlace},
		{"(nth x)", 0, api.ErrForm, place.ErrPlace}, {"(nth 1 x y)", 0, api.ErrForm, place.ErrPlace}, {"(second)", 0, api.ErrForm, place.ErrPlace}, {"(third x y)", 0, api.ErrForm, place.ErrPlace},
		{"(caar)", 0, api.ErrForm, place.ErrPlace}, {"(cadr x y)", 0, api.ErrForm, place.ErrPlace}, {"(cdar)", 0, api.ErrForm, place.ErrPlace}, {"(cddr x y)", 0, api.ErrForm, place.ErrPlace},
		{"(the t)", 0, api.ErrForm, place.ErrPlace}, {"(the t 1)", 0, api.ErrForm, place.ErrPlace}, {"(the t x y)", 0, api.ErrForm, place.ErrPlace}, {"(values x 1)", 0, api.ErrForm, place.ErrPlace},
		{"(u::setf x 1)", 0, api.ErrForm, api.OK}, {"(setq x 1)", 0, api.ErrForm, api.OK}, {"(defsetf a b)", 0, api.ErrForm, api.OK},
		{"(setf x)", 0, api.ErrForm, api.OK}, {"(setf 1 2 3)", 0, api.ErrForm, api.OK}, {"(setf x 1 2 3)", 0, place.ErrPlace, api.OK}, {"(setf nil 1)", 0, place.ErrPlace, api.OK}, {"(setf #1=x #1#)", 0, place.ErrPlace, api.OK},
		{"(psetf x)", 0, api.ErrForm, api.OK}, {"(psetf (values a b) 1)", 0, place.ErrPlace, api.OK}, {"(psetf x 1 :k 2)", 0, place.ErrPlace, api.OK},
		{"(incf)", 0, api.ErrForm, api.OK}, {"(incf x 1 2)", 0, api.ErrForm, api.OK}, {"(incf 1)", 0, place.ErrPlace, api.OK}, {"(incf (values))", 0, place.ErrPlace, api.OK}, {"(decf)", 0, api.ErrForm, api.OK}, {"(decf (values a b))", 0, place.ErrPlace, api.OK},
		{"(push 1)", 0, api.ErrForm, api.OK}, {"(push 1 x y)", 0, api.ErrForm, api.OK}, {"(push 1 2)", 0, place.ErrPlace, api.OK}, {"(pushnew 1)", 0, api.ErrForm, api.OK}, {"(pushnew 1 x y)", 0, api.ErrForm, api.OK}, {"(pushnew 1 (values a b))", 0, place.ErrPlace, api.OK},
		{"(pop)", 0, api.ErrForm, api.OK}, {"(pop x y)", 0, api.ErrForm, api.OK}, {"(pop nil)", 0, place.ErrPlace, api.OK}, {"(rotatef x 1)", 0, place.ErrPlace, api.OK}, {"(rotatef (values a b))", 0, place.ErrPlace, api.OK},
		{"(shiftf)", 0, api.ErrForm, api.OK}, {"(shiftf x)", 0, api.ErrForm, api.OK}, {"(shiftf 1 x)", 0, place.ErrPlace, api.OK}, {"(shiftf (values a b) x)", 0, place.ErrPlace, api.OK},
		{"(setf x 1)", -1, api.ErrArg, api.ErrArg}, {"(setf x 1)", 1<<30 + 1, api.ErrArg, api.ErrArg}, {"(setf x 1)", 1 << 30, api.OK, api.OK}, {"(setf 1 2)", -1, api.ErrArg, api.ErrArg}, {"5", -1, api.ErrArg, api.ErrArg},
		{large, 0, api.ErrSize, api.OK}, {"(incf (car '#1=(a)))", 0, api.ErrSize, api.OK}, {"(car '#1=(a))", 0, api.ErrForm, api.OK}, {"(setf (car #1=(f)) (car #1#))", 0, api.ErrSize, api.ErrSize},
	} {
		f, next, e := place.Macro(place.Standard(), form(t, c.text), c.fresh)
		fails(t, "Macro of "+c.text, e, c.macro)
		if e != api.OK && (f.Kind != 0 || next != 0) {
			t.Errorf("Macro of %s: %v, %d with an error", c.text, f, next)
		}
		p, next, e := place.Expand(place.Standard(), form(t, c.text), c.fresh)
		fails(t, "Expand of "+c.text, e, c.place)
		if e != api.OK && (fmt.Sprint(p) != fmt.Sprint(place.Place{}) || next != 0) {
			t.Errorf("Expand of %s: %v, %d with an error", c.text, p, next)
		}
	}
	for _, wrong := range []api.Form{{}, {Kind: api.FormSymbol, Text: "X", Kids: []api.Form{{}}}, {Kind: api.FormRef, Text: "1"}, {Kind: api.FormCons, Kids: make([]api.Form, 2001)}} {
		want := forms.Check(wrong)
		_, _, e := place.Macro(nil, wrong, -1)
		fails(t, "Macro of a wrong form", e, want)
		_, _, e = place.Expand(nil, wrong, -1)
		fails(t, "Expand of a wrong form", e, want)
		_, e = place.Define(nil, wrong)
		fails(t, "Define of a wrong form", e, want)
	}
}

// P23.1, P23.4: the parts of a place.
func TestExpand(t *testing.T) {
	for _, c := range []struct{ from, temps, values, stores, write, read string }{
		{"x", "", "", "g5", "(setq x g5)", "x"},
		{"u::x", "", "", "g5", "(setq u::x g5)", "u::x"},
		{"(aref v 0 i)", "g5 g6", "v i", "g7", "(progn (%aset g5 0 g6 g7) g7)", "(aref g5 0 g6)"},
		{"(nth 1 x)", "g5", "(nthcdr 1 x)", "g6", "(progn (rplaca g5 g6) g6)", "(car g5)"},
		{"(the t (cdr x))", "g5", "x", "g6", "(progn (rplacd g5 g6) g6)", "(the t (cdr g5))"},
		{"(values)", "", "", "", "(values)", "(values)"},
		{"(values (car x) y (f z))", "g5 g8", "x z", "g6 g7 g9", "(values (progn (rplaca g5 g6) g6) (setq y g7) (progn (|(SETF F)| g9 g8) g9))", "(values (car g5) y (f g8))"},
		{"(f)", "", "", "g5", "(progn (|(SETF F)| g5) g5)", "(f)"},
	} {
		p, next, e := place.Expand(place.Standard(), form(t, c.from), 5)
		fails(t, c.from, e, api.OK)
		got := []string{texts(p.Temps), texts(p.Values), texts(p.Stores), text(p.Write), text(p.Read)}
		if want := []string{c.temps, c.values, c.stores, c.write, c.read}; !slices.Equal(got, want) {
			t.Errorf("%s: %q; want %q", c.from, got, want)
		}
		if next != 5+len(p.Temps)+len(p.Stores) {
			t.Errorf("%s: %d is next", c.from, next)
		}
	}
}

// P23.1: writers of one's own, of which the last one counts.
func TestWriters(t *testing.T) {
	var names []string
	for _, w := range place.Standard() {
		names = append(names, text(w.Reader)+" "+text(w.Writer))
	}
	want := "car rplaca, cdr rplacd, first rplaca, rest rplacd, aref %aset, svref %aset, gethash %puthash, symbol-value set, symbol-function %fset, fdefinition %fset, slot-value %set-slot-value"
	if got := strings.Join(names, ", "); got != want {
		t.Errorf("the standard writers are %s", got)
	}
	l := place.Standard()
	for _, text := range []string{"(defsetf get-it put-it)", "(defsetf nth put-nth)", "(defsetf get-it u::put)", "(defsetf car set-car)", "(defsetf values put-values)"} {
		longer, e := place.Define(l, form(t, text))
		fails(t, text, e, api.OK)
		if len(longer) != len(l)+1 || !slices.EqualFunc(longer[:len(l)], l, func(a, b place.Writer) bool {
			return forms.Equal(a.Reader, b.Reader) && forms.Equal(a.Writer, b.Writer)
		}) {
			t.Errorf("%s: %v", text, longer)
		}
		l = longer
	}
	for from, to := range map[string]string{
		"(setf (get-it x) 1)":  "(let* ((g0 x) (g1 1)) (progn (u::put g0 g1) g1))",
		"(setf (nth 1 x y) 1)": "(let* ((g0 x) (g1 y) (g2 1)) (progn (put-nth 1 g0 g1 g2) g2))",
		"(setf (cadr x) 1)":    "(let* ((g0 (cdr x)) (g1 1)) (progn (set-car g0 g1) g1))",
		"(setf (values 1) 1)":  "(let* ((g0 1)) (progn (put-values 1 g0) g0))",
	} {
		got, _, e := place.Macro(l, form(t, from), 0)
		fails(t, from, e, api.OK)
		same(t, from, got, form(t, to))
	}
	// without writers CAR is a name like any other, and nothing stands for a CAR
	got, _, e := place.Macro(nil, form(t, "(setf (car x) 1)"), 0)
	fails(t, "CAR without a writer", e, api.OK)
	same(t, "CAR without a writer", got, form(t, "(let* ((g0 x) (g1 1)) (progn (|(SETF CAR)| g1 g0) g1))"))
	_, _, e = place.Macro(nil, form(t, "(setf (cadr x) 1)"), 0)
	fails(t, "CADR without a writer", e, place.ErrPlace)
	// readers and writers may be any forms
	odd := []place.Writer{{form(t, "(f)"), form(t, "(lambda (x y) y)")}, {form(t, "7"), api.Form{Kind: 99}}}
	got, _, e = place.Macro(odd, form(t, "(setf ((f) x) 1)"), 0)
	fails(t, "a list as a reader", e, api.OK)
	same(t, "a list as a reader", got, form(t, "(let* ((g0 x) (g1 1)) (progn ((lambda (x y) y) g0 g1) g1))"))
	_, _, e = place.Macro(odd, form(t, "(setf (7 x) 1)"), 0)
	fails(t, "a writer that is no form", e, api.ErrSize)
	for _, text := range []string{"(defsetf a)", "(defsetf a b c)", "(defsetf a nil)", "(defsetf t b)", "(defsetf :a b)", "(defsetf a 1)", "(defsetf (a) b)", "(defsetf a . b)", "(u::defsetf a b)", "defsetf", "(setf a b)"} {
		l, e := place.Define(place.Standard(), form(t, text))
		fails(t, text, e, api.ErrForm)
		if l != nil {
			t.Errorf("%s: %v with an error", text, l)
		}
	}
}

// P23.1: constants, and fresh symbols.
func TestConstants(t *testing.T) {
	for text, want := range map[string]bool{
		"x": false, "nil": true, "t": true, ":k": true, "u::nil": false, "u::t": false, "#:t": false, "1": true, "1/2": true, "1.5": true, "#c(1 2)": true, "#\\a": true, "\"a\"": true, "#*10": true, "#(x)": true, "#2a((x))": true, "#1=x": true,
		"(f)": false, "(quote x)": true, "'(a . b)": true, "(quote)": false, "(quote x y)": false, "(quote . x)": false, "(quote x . y)": false, "(u::quote x)": false, "quote": false, "(function x)": false, "(list 'x)": false,
	} {
		if got := place.Constant(form(t, text)); got != want {
			t.Errorf("%s: %v", text, got)
		}
	}
	if !place.Constant(api.Form{}) || !place.Constant(api.Form{Kind: 99}) || place.Constant(api.Form{Kind: api.FormCons}) {
		t.Error("forms that are not right")
	}
	for n, want := range map[int]string{0: "0", 17: "17", -3: "-3", 1 << 40: "1099511627776"} {
		same(t, "Fresh", place.Fresh(n), forms.Symbol("%", want))
	}
}
