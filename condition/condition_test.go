package condition_test

import (
	"crypto/sha256"
	"fmt"
	"slices"
	"strconv"
	"strings"
	"testing"

	"commonform/api"
	"commonform/condition"
	"commonform/forms"
	"commonform/place"
	"commonform/printer"
	"commonform/reader"
)

func fails(t *testing.T, what string, got, want api.Errno) {
	t.Helper()
	if got != want {
		t.Errorf("%s: %v; want %v", what, got, want)
	}
}

// renamed returns a form whose symbols are what a function says.
func renamed(f api.Form, name func(api.Form) api.Form) api.Form {
	if f.Kind == api.FormSymbol {
		return name(f)
	}
	kids := f.Kids
	f.Kids = nil
	for _, kid := range kids {
		f.Kids = append(f.Kids, renamed(kid, name))
	}
	return f
}

// form reads a form whose symbols are those of COMMON-LISP; G0, G1 and so on are the fresh symbols with these numbers.
func form(t *testing.T, text string) api.Form {
	t.Helper()
	r, at, e := reader.One(reader.Standard("COMMON-LISP"), text)
	if e != api.OK {
		t.Fatalf("%s: %v at %d", text, e, at)
	}
	return renamed(r.Form, func(s api.Form) api.Form {
		if digits, ok := strings.CutPrefix(s.Text, "G"); ok && digits != "" && strings.Trim(digits, "0123456789") == "" {
			return forms.Symbol("%", digits)
		}
		return s
	})
}

func text(f api.Form) string {
	f = renamed(f, func(s api.Form) api.Form {
		if s.Home == "%" {
			return forms.Symbol("COMMON-LISP", "G"+s.Text)
		}
		return s
	})
	s, e := printer.Print(printer.Standard("COMMON-LISP"), f)
	if e != api.OK {
		return fmt.Sprint("?", e, f)
	}
	return s
}

func same(t *testing.T, what string, got, want api.Form) {
	t.Helper()
	if !forms.Equal(got, want) {
		t.Errorf("%s: %s; want %s", what, text(got), text(want))
	}
}

// expansions are forms, what they become with fresh symbols from 0 on, and how many are taken.
func expansions() []struct {
	from, to string
	taken    int
} {
	handlers, restarts := "(symbol-value '%handlers%)", "(symbol-value '%restarts%)"
	return []struct {
		from, to string
		taken    int
	}{
		{"(handler-bind ())", "(progv '(%handlers%) (list (cons (list) " + handlers + ")))", 0},
		{"(handler-bind ((error h)) (f))", "(progv '(%handlers%) (list (cons (list (cons 'error h)) " + handlers + ")) (f))", 0},
		{"(handler-bind (((or a b) (function h)) (5 nil)) (f) (g))", "(progv '(%handlers%) (list (cons (list (cons '(or a b) #'h) (cons '5 nil)) " + handlers + ")) (f) (g))", 0},
		{"(restart-bind ())", "(progv '(%restarts%) (list (append (list) " + restarts + ")))", 0},
		{"(restart-bind ((a f) (nil (g))) (h))", "(progv '(%restarts%) (list (append (list (cons 'a f) (cons 'nil (g))) " + restarts + ")) (h))", 0},
		{"(handler-case x)", "(block g0 (let* ((g1 nil)) (tagbody (return-from g0 (handler-bind () x)))))", 3},
		{"(handler-case (f) (error (e) (g e)))", "(block g0 (let* ((g1 nil)) (tagbody (return-from g0 (handler-bind ((error (lambda (g3) (setq g1 g3) (go g2)))) (f))) g2 (return-from g0 (let* ((e g1)) (g e))))))", 4},
		{"(handler-case x (a ()) ((not b) (c)) (5 () 1 2))", "(block g0 (let* ((g1 nil)) (tagbody (return-from g0 (handler-bind ((a (lambda (g5) (setq g1 g5) (go g2))) ((not b) (lambda (g5) (setq g1 g5) (go g3))) (5 (lambda (g5) (setq g1 g5) (go g4)))) x)) g2 (return-from g0 (progn)) g3 (return-from g0 (let* ((c g1)))) g4 (return-from g0 (progn 1 2)))))", 6},
		{"(restart-case x)", "(block g0 (let* ((g1 nil)) (tagbody (return-from g0 (restart-bind () x)))))", 3},
		{"(restart-case (f) (a (x &optional y) x) (nil ()))", "(block g0 (let* ((g1 nil)) (tagbody (return-from g0 (restart-bind ((a (lambda (&rest g4) (setq g1 g4) (go g2))) (nil (lambda (&rest g4) (setq g1 g4) (go g3)))) (f))) g2 (return-from g0 (apply (lambda (x &optional y) x) g1)) g3 (return-from g0 (apply (lambda ()) g1)))))", 5},
		{"(restart-case x (a (1 (2)) 3))", "(block g0 (let* ((g1 nil)) (tagbody (return-from g0 (restart-bind ((a (lambda (&rest g3) (setq g1 g3) (go g2)))) x)) g2 (return-from g0 (apply (lambda (1 (2)) 3) g1)))))", 4},
		{"(ignore-errors)", "(handler-case (progn) (error (g0) (values nil g0)))", 1},
		{"(ignore-errors (f) (g))", "(handler-case (progn (f) (g)) (error (g0) (values nil g0)))", 1},
		{"(with-simple-restart (a))", "(restart-case (progn) (a () (values nil t)))", 0},
		{"(with-simple-restart (a \"~A\" x) (f) (g))", "(restart-case (progn (f) (g)) (a () (values nil t)))", 0},
		{"(define-condition c () ())", "(defclass c (condition) ())", 0},
		{"(define-condition c (a b) (x (y :initarg :y)) (:report r) 5)", "(defclass c (a b) (x (y :initarg :y)))", 0},
		{"(assert (f))", "(if (f) nil (error 'simple-error))", 0},
		{"(check-type (car x) (or integer null))", "(if (typep (car x) '(or integer null)) nil (error 'type-error))", 0},
	}
}

// P25.1, P25.2: expansions, also from another number on.
func TestMacro(t *testing.T) {
	for _, c := range expansions() {
		f, want := form(t, c.from), form(t, c.to)
		for _, fresh := range []int{0, 7, 1 << 30} {
			moved := renamed(want, func(s api.Form) api.Form {
				if n, err := strconv.Atoi(s.Text); s.Home == "%" && err == nil {
					return place.Fresh(n + fresh)
				}
				return s
			})
			got, next, e := condition.Macro(f, fresh)
			fails(t, c.from, e, api.OK)
			same(t, c.from, got, moved)
			if next != fresh+c.taken {
				t.Errorf("%s from %d on: %d is next", c.from, fresh, next)
			}
		}
	}
}

// P25.1: the first error counts.
func TestErrors(t *testing.T) {
	for _, from := range []string{
		"x", "5", "nil", "(f)", "(handler-bind . x)", "(u::handler-bind ())", "((handler-bind))", "\"assert\"",
		"(handler-bind)", "(handler-bind x)", "(handler-bind (x))", "(handler-bind ((a)))", "(handler-bind ((a b c)))", "(handler-bind ((a . b)))", "(handler-bind ((a b) . c))", "(handler-bind ((a b . c)))",
		"(restart-bind)", "(restart-bind x)", "(restart-bind ((1 f)))", "(restart-bind ((a)))", "(restart-bind (((a) f)))",
		"(handler-case)", "(handler-case x y)", "(handler-case x (a))", "(handler-case x (a b))", "(handler-case x (a (b c)))", "(handler-case x (a (1)))", "(handler-case x (a (nil)))", "(handler-case x (a (:k)))", "(handler-case x (a (b . c)))", "(handler-case x (a () . b))", "(handler-case x (a ((b))))", "(handler-case x nil)",
		"(restart-case)", "(restart-case x (1 ()))", "(restart-case x ((a) ()))", "(restart-case x (a))", "(restart-case x (a b))", "(restart-case x (a (b . c)))", "(restart-case x a)",
		"(with-simple-restart)", "(with-simple-restart a)", "(with-simple-restart ())", "(with-simple-restart (1) x)", "(with-simple-restart (a . b))", "(ignore-errors . x)",
		"(define-condition)", "(define-condition c)", "(define-condition c ())", "(define-condition 1 () ())", "(define-condition c x ())", "(define-condition c () x)", "(define-condition c (a . b) ())", "(define-condition c () (a . b))",
		"(assert)", "(assert x y)", "(check-type)", "(check-type x)", "(check-type x y z)",
	} {
		f, next, e := condition.Macro(form(t, from), 0)
		fails(t, from, e, api.ErrForm)
		if f.Kind != 0 || next != 0 {
			t.Errorf("%s: %v, %d with an error", from, f, next)
		}
		_, _, e = condition.Macro(form(t, from), -1)
		fails(t, from+" from -1 on", e, api.ErrArg)
	}
	_, _, e := condition.Macro(form(t, "(assert x)"), 1<<30+1)
	fails(t, "above 2^30", e, api.ErrArg)
	large := form(t, "(assert '("+strings.Repeat("1 ", 1990)+"))")
	_, _, e = condition.Macro(large, 0)
	fails(t, "a large form", e, api.ErrSize)
	for _, from := range []string{"(handler-case '#1=(a) ('#1# ()))", "(with-simple-restart (a #1=(x)) '#1#)", "(define-condition c () () #1=(:a))"} {
		_, _, e = condition.Macro(form(t, from), 0)
		want := api.ErrSize
		if strings.Contains(from, "define") {
			want = api.OK // what has the label is left out
		}
		fails(t, from, e, want)
	}
	for _, wrong := range []api.Form{{}, {Kind: api.FormCons, Kids: make([]api.Form, 2001)}, {Kind: api.FormRef, Text: "1"}} {
		_, _, e := condition.Macro(wrong, -1)
		fails(t, "Macro of a wrong form", e, forms.Check(wrong))
		_, _, e = condition.Clauses(wrong)
		fails(t, "Clauses of a wrong form", e, forms.Check(wrong))
	}
}

// P25.1: clauses.
func TestClauses(t *testing.T) {
	for _, c := range []struct{ from, want string }{
		{"(handler-case x)", "x"}, {"(handler-case (f) (a ()) ((or b c) (e) 1 (g e)))", "(f); a nil nil; (or b c) (e) (1 (g e))"},
		{"(restart-case (f) (a (x y) . (1)) (nil nil))", "(f); a (x y) (1); nil nil nil"}, {"(restart-case nil (a (1 \"x\") nil))", "nil; a (1 \"x\") (nil)"},
	} {
		x, l, e := condition.Clauses(form(t, c.from))
		fails(t, c.from, e, api.OK)
		got := text(x)
		for _, clause := range l {
			got += "; " + text(clause.Name) + " " + text(clause.Params) + " " + text(forms.List(clause.Body))
		}
		if got != c.want {
			t.Errorf("%s: %s; want %s", c.from, got, c.want)
		}
	}
	for _, from := range []string{"x", "nil", "(handler-bind ())", "(ignore-errors x)", "(u::handler-case x)", "(handler-case . x)", "(handler-case)", "(handler-case x (a (b c)))", "(handler-case x (a (t)))", "(handler-case x (a))", "(restart-case)", "(restart-case x (1 ()))", "(restart-case x (a 1))"} {
		x, l, e := condition.Clauses(form(t, from))
		fails(t, from, e, api.ErrForm)
		if x.Kind != 0 || l != nil {
			t.Errorf("%s: %v, %v with an error", from, x, l)
		}
	}
}

// occurring returns the numbers of the forms (S 0), (S 1) and so on, in the order in which they stand in a form.
func occurring(f api.Form) []int {
	if f.Kind == api.FormCons && forms.Is(f.Kids[0], "COMMON-LISP", "S") {
		n, _ := strconv.Atoi(f.Kids[1].Text)
		return []int{n}
	}
	var all []int
	for _, kid := range f.Kids {
		all = append(all, occurring(kid)...)
	}
	return all
}

// P25.2: each form stands once, and in order.
func TestForms(t *testing.T) {
	for from, want := range map[string][]int{
		"(handler-bind ((a (s 0)) (b (s 1))) (s 2) (s 3))":                  {0, 1, 2, 3},
		"(restart-bind ((a (s 0)) (b (s 1))) (s 2) (s 3))":                  {0, 1, 2, 3},
		"(handler-case (s 0) (a () (s 1)) (b (c) (s 2) (s 3)))":             {0, 1, 2, 3},
		"(restart-case (s 0) (a () (s 1)) (b (&optional (c (s 2))) (s 3)))": {0, 1, 2, 3},
		"(ignore-errors (s 0) (s 1))":                                       {0, 1},
		"(with-simple-restart (a) (s 0) (s 1))":                             {0, 1},
		"(assert (s 0))":                                                    {0},
		"(check-type (s 0) integer)":                                        {0},
	} {
		got, _, e := condition.Macro(form(t, from), 0)
		fails(t, from, e, api.OK)
		if parts := occurring(got); !slices.Equal(parts, want) {
			t.Errorf("%s: %s has the forms %v", from, text(got), parts)
		}
	}
}

// preludeSum is the sum of the text that chapter 25 tells.
const preludeSum = "c037b0677f3999d0c0d282c5da3e36cc3138e914322c6e26e950cf42c4847aca"

// P25.1: the text of the prelude.
func TestPrelude(t *testing.T) {
	s := condition.Prelude()
	if sum := fmt.Sprintf("%x", sha256.Sum256([]byte(s))); sum != preludeSum {
		t.Errorf("the sum of the prelude is %s", sum)
	}
	l, at, e := reader.All(reader.Standard("COMMON-LISP"), s)
	if e != api.OK || len(l) != 33 {
		t.Fatalf("%d forms, %v at %d", len(l), e, at)
	}
	lines := strings.Split(s, "\n")
	var names []string
	for i, r := range l {
		if line := strings.ToUpper(text(r.Form)); line != strings.ReplaceAll(lines[i], "()", "NIL") {
			t.Errorf("the line %s is read as %s", lines[i], line)
		}
		name := r.Form.Kids[1]
		if name.Kind == api.FormCons { // (SET 'name ..)
			name = name.Kids[1]
		}
		names = append(names, name.Text)
	}
	want := "CONDITION WARNING SERIOUS-CONDITION ERROR SIMPLE-CONDITION SIMPLE-ERROR SIMPLE-WARNING CONTROL-ERROR PROGRAM-ERROR TYPE-ERROR CELL-ERROR UNBOUND-VARIABLE UNBOUND-SLOT UNDEFINED-FUNCTION ARITHMETIC-ERROR DIVISION-BY-ZERO FLOATING-POINT-OVERFLOW " +
		"%HANDLERS% %RESTARTS% %CONDITION %OFFER %SIGNAL SIGNAL ERROR WARN CERROR FIND-RESTART COMPUTE-RESTARTS INVOKE-RESTART CONTINUE MUFFLE-WARNING CONDITION-DATA %FAULT"
	if got := strings.Join(names, " "); got != want {
		t.Errorf("the prelude defines %s", got)
	}
	if len(lines) != 34 || lines[33] != "" {
		t.Errorf("%d lines", len(lines))
	}
}

// R4: results share no memory with arguments.
func TestMemory(t *testing.T) {
	f := form(t, "(handler-case (f) (a (e) (g e)) (b () (h)))")
	want := text(f)
	got, _, _ := condition.Macro(f, 0)
	x, l, _ := condition.Clauses(f)
	scratch(got)
	scratch(x)
	for _, c := range l {
		scratch(c.Params)
		for _, b := range c.Body {
			scratch(b)
		}
	}
	if text(f) != want {
		t.Errorf("the form is %s", text(f))
	}
}

// scratch overwrites all parts of a form.
func scratch(f api.Form) {
	for i := range f.Kids {
		scratch(f.Kids[i])
		f.Kids[i] = api.Form{Kind: api.FormString, Text: "scratched"}
	}
}
