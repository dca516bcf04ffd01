package meaning_test

import (
	"fmt"
	"math/rand"
	"strings"
	"testing"

	"commonform/api"
	"commonform/core"
	"commonform/heap"
	"commonform/lib"
	"commonform/meaning"
)

// defined is the text of a program with a function for %FAULT.
func defined(lambda, text string) string {
	return "(progn (%fset '%fault (function (lambda " + lambda + "))) " + text + ")"
}

// P21.1: a fault calls the function of %FAULT where it happened.
func TestFaults(t *testing.T) {
	for _, c := range []struct{ text, want, output string }{
		{defined("(type data) (princ (list type data))", "(car 5)"), "! TYPE-ERROR 5 list", "(type-error (5 list))"},
		{"(block a " + defined("(type data) (return-from a (list type data))", "(+ 1 (car 5))") + ")", "= (type-error (5 list))", ""},
		{defined("(type data) (throw 'out (values type 2))", "(catch 'out (cdr nowhere))"), "= unbound-variable 2", ""},
		{defined("(type data) 1", "(unwind-protect (car 5) (princ 1))"), "! TYPE-ERROR 5 list", "1"},
		{defined("(type data) (princ 0)", "(unwind-protect (car 5) (princ 1))"), "! TYPE-ERROR 5 list", "01"},
		{defined("(type data) (princ x)", "(progn (set 'x 1) (unwind-protect (let ((x 2)) (declare (special x)) (car 5)) (princ x)))"), "! TYPE-ERROR 5 list", "21"},
		// a fault of the function itself is a fault like another one
		{"(let ((n 0)) " + defined("(type data) (setq n (+ n 1)) (princ type) (if (< n 3) (cdr n))", "(car 5)") + ")", "! TYPE-ERROR 2 list", "type-errortype-errortype-error"},
		{defined("(type) 1", "(car 5)"), "limit 12", ""},
		{"(progn (%fset '%fault (function list)) (car 5))", "! TYPE-ERROR 5 list", ""},
		{"(block a (unwind-protect (car 5) (return-from a 7)))", "= 7", ""},
		{"(catch 1 (unwind-protect (car 5) (throw 1 8)))", "= 8", ""},
		{"(unwind-protect (car 5) (cdr 6))", "! TYPE-ERROR 6 list", ""},
		{"(unwind-protect (unwind-protect (car 5) (cdr 6)) (princ 1))", "! TYPE-ERROR 6 list", "1"},
		{"(/ 1 0)", "! DIVISION-BY-ZERO", ""},
	} {
		w := newWorld(t)
		if got := ran(t, w, c.text); got != c.want || w.Output() != c.output {
			t.Errorf("%s %s, printed %s; want %s, %s", c.text, got, w.Output(), c.want, c.output)
		}
	}
	w := newWorld(t)
	if _, status, _ := w.Symbols().Find("COMMON-LISP", "%FAULT"); status != 0 {
		t.Errorf("%s is there ahead of all faults", "%FAULT")
	}
	ran(t, w, "(car 5)")
	n, status, _ := w.Symbols().Find("COMMON-LISP", "%FAULT")
	equal(t, "%FAULT behind a fault", []any{n > 0, status}, []any{true, 1})
	fault, _ := w.Symbol("COMMON-LISP", "%FAULT")
	fails(t, "SetFunction", w.SetFunction(fault, 40), api.OK)
	equal(t, "no function", ran(t, w, "(car 5)"), "! TYPE-ERROR 5 list")
	fails(t, "SetFunction", w.SetFunction(fault, fault), api.OK)
	equal(t, "a symbol", ran(t, w, "(car 5)"), "! TYPE-ERROR 5 list")
}

// P21.1: what ends a run: limits, which nothing catches, and symbols that the world refuses.
func TestLimits(t *testing.T) {
	for _, c := range []struct{ text, want string }{
		{"(tagbody a (go a))", "limit 10"},
		{"(labels ((f () (+ 1 (f)))) (f))", "limit 12"},
		{"(tagbody a (write-string \"0123456789\") (go a))", "limit 14"},
		{"(let ((l nil)) (tagbody a (setq l (list l l l l l l l l l l l l l l l l l l)) (go a)))", "limit 11"},
		{"(tagbody a (let ((x 1) (y 2) (z 3)) x) (go a))", "limit 11"},
		{"(let ((l nil)) (tagbody a (setq l (function (lambda () l))) (setq l (function (lambda () l))) (go a)))", "limit 11"},
	} {
		w := newWorld(t)
		text := "(progn (set 'x 1) (set 'y 0) (let ((x 2)) (declare (special x)) (unwind-protect " + c.text + " (set 'y 1))))"
		if got := ran(t, w, text); got != c.want {
			t.Errorf("%s %s; want %s", c.text, got, c.want)
		}
		for name, want := range map[string]heap.Word{"X": 16, "Y": 0} {
			s, _ := w.Symbol("COMMON-LISP-USER", name)
			x, _ := w.Value(s)
			equal(t, name+" behind a limit", x, want)
		}
	}
	w := newWorld(t)
	recursive, _ := w.Symbol("COMMON-LISP", "RECURSIVE")
	fails(t, "Register", w.Register("RECURSIVE", 0, 0, func([]heap.Word) lib.Answer {
		end, _ := meaning.Apply(w, recursive, nil, 1000)
		return lib.Answer{Kind: lib.AnswerLimit, Code: end.Code}
	}), api.OK)
	end, _ := meaning.Apply(w, recursive, nil, 1000)
	equal(t, "runs in runs", ending(w, end), "limit 12")
}

// P21.1: without room a run ends, also where a symbol of the tree or of a fault has none.
func TestNoRoom(t *testing.T) {
	for _, text := range []string{"(car 5)", "'somewhere", "\"abc\"", "((lambda (&rest x) x) 5)", "(function (lambda () 1))"} {
		w := newWorld(t)
		c := tree(t, text)
		for {
			if _, e := w.Heap().New(heap.KindVector, 0); e != api.OK {
				break
			}
		}
		end, _ := meaning.Run(w, c, 1000)
		equal(t, text, ending(w, end), "limit 11")
	}
}

// P21.1: where the world refuses a symbol, the run ends without cleanup, but bindings are undone.
func TestRefused(t *testing.T) {
	for _, home := range []string{"NOWHERE", "COMMON-LISP-USER"} {
		name, code := "X", "5"
		if home == "COMMON-LISP-USER" {
			name, code = strings.Repeat("X", 61), "4"
		}
		s := api.Form{Kind: api.FormSymbol, Home: home, Text: name}
		x := api.Form{Kind: api.FormSymbol, Home: "COMMON-LISP-USER", Text: "X"}
		one := api.Core{Op: api.CoreConst, Data: api.Form{Kind: api.FormInt, Text: "1"}}
		for _, c := range []api.Core{
			{Op: api.CoreSpecial, Data: s},
			{Op: api.CoreFunction, Data: s},
			{Op: api.CoreCallGlobal, Data: s},
			{Op: api.CoreConst, Data: s},
			{Op: api.CoreSetSpecial, Data: s, Kids: []api.Core{one}},
			{Op: api.CoreBind, Syms: []api.Form{s}, Kids: []api.Core{one, one}},
		} {
			w := newWorld(t)
			cleanup := api.Core{Op: api.CoreCallGlobal, Data: api.Form{Kind: api.FormSymbol, Home: "COMMON-LISP", Text: "TERPRI"}}
			c = api.Core{Op: api.CoreBind, Syms: []api.Form{x}, Kids: []api.Core{one, {Op: api.CoreProtect, Kids: []api.Core{c, cleanup}}}}
			end, _ := meaning.Run(w, c, 1000)
			equal(t, "a refused symbol", ending(w, end), "bad "+code)
			equal(t, "the output", w.Output(), "")
			equal(t, "its bindings", ran(t, w, "(boundp 'x)"), "= nil")
		}
	}
	w := newWorld(t)
	for i := 0; ; i++ {
		if _, _, e := w.Symbols().Intern("COMMON-LISP-USER", fmt.Sprint("S", i)); e != api.OK {
			break
		}
	}
	equal(t, "too many symbols", ran(t, w, "another"), "bad 9")
	equal(t, "a fault without %FAULT", ran(t, w, "(/ 1 0)"), "! DIVISION-BY-ZERO")
}

// P21.1: trees that are not run at all.
func TestBad(t *testing.T) {
	w := newWorld(t)
	deep := api.Core{Op: api.CoreProgn}
	for range 100 {
		deep = api.Core{Op: api.CoreProgn, Kids: []api.Core{deep}}
	}
	for _, c := range []struct {
		w    *lib.World
		c    api.Core
		code api.Errno
	}{
		{w, api.Core{}, api.ErrForm},
		{w, api.Core{Op: api.CoreVar}, api.ErrForm},
		{w, deep, api.ErrSize},
		{nil, deep, api.ErrSize},
		{nil, api.Core{Op: api.CoreProgn}, api.ErrArg},
		{&lib.World{}, api.Core{Op: api.CoreProgn}, api.ErrArg},
	} {
		end, n := meaning.Run(c.w, c.c, 100)
		equal(t, "a bad run", []any{end.Kind, end.Code, n}, []any{lib.EndBad, c.code, 0})
	}
	c := tree(t, "(let ((x '(1 2))) (setq f (function (lambda () x))))")
	ran := func() string {
		end, _ := meaning.Run(w, c, 100)
		return ending(w, end)
	}
	ran()
	c.Kids[0].Data.Kids[0].Text = "5"
	c.Kids[1].Kids[0].Op = 99
	s, _ := w.Symbol("COMMON-LISP-USER", "F")
	f, _ := w.Value(s)
	end, _ := meaning.Apply(w, f, nil, 100)
	equal(t, "a tree that was changed behind its run", ending(w, end), "= (1 2)")
}

// P21.4: each number of steps that is too small ends a run with ErrSteps, each other one alike.
func TestSteps(t *testing.T) {
	equalSteps := func(text string, want int) {
		t.Helper()
		_, n := meaning.Run(newWorld(t), tree(t, text), 1000)
		equal(t, "the steps of "+text, n, want)
	}
	equalSteps("1", 1)
	equalSteps("(progn)", 1)
	equalSteps("(list)", 2)
	equalSteps("(list 1 2)", 4)
	equalSteps("(if nil 1 (car 5))", 5)
	equalSteps("(funcall (function (lambda (x) x)) 1)", 6)
	equalSteps("((lambda (x) x) 1)", 5)
	equalSteps("(funcall 'list)", 3)
	equalSteps("(tagbody a)", 3)
	r := rand.New(rand.NewSource(214))
	for range 150 {
		p := writer{r: r}
		source := p.form(scope{}, 4)
		c, e := core.Convert(form(t, source), nil)
		fails(t, source, e, api.OK)
		w := newWorld(t)
		end, steps := meaning.Run(w, c, 2000)
		if end.Kind == lib.EndLimit {
			continue
		}
		want := ending(w, end)
		for _, limit := range []int{0, 1, steps / 2, steps - 1, steps, steps + 1, 2 * steps, 1 << 60} {
			w := newWorld(t)
			end, n := meaning.Run(w, c, limit)
			if limit < steps {
				equal(t, source, []any{ending(w, end), n}, []any{"limit 10", limit})
			} else {
				equal(t, source, []any{ending(w, end), n}, []any{want, steps})
			}
		}
	}
	end, n := meaning.Run(newWorld(t), tree(t, "(tagbody a (go a))"), 1<<60)
	equal(t, "the greatest number", []any{end.Kind, end.Code, n}, []any{lib.EndLimit, api.ErrSteps, api.MaxSteps})
}

// P21.2, P21.5: renamed trees run alike; Progn of one form and a Block that nobody leaves change nothing but steps.
func TestSame(t *testing.T) {
	r := rand.New(rand.NewSource(212))
	for range 300 {
		p := writer{r: r}
		source := "(progn (princ 0) " + p.form(scope{}, 5) + ")"
		if len(source) > api.MaxSource {
			continue
		}
		c, e := core.Convert(form(t, source), nil)
		fails(t, source, e, api.OK)
		w := newWorld(t)
		end, steps := meaning.Run(w, c, 5000)
		if end.Kind == lib.EndLimit {
			continue
		}
		renamed, e := core.Renamed(c, 1000)
		fails(t, "Renamed", e, api.OK)
		for i, other := range []api.Core{renamed, {Op: api.CoreProgn, Kids: []api.Core{c}}, {Op: api.CoreBlock, N: 9999, Kids: []api.Core{c}}} {
			w2 := newWorld(t)
			end2, steps2 := meaning.Run(w2, other, 5001)
			if core.Check(other) != api.OK {
				continue
			}
			equal(t, source, []any{ending(w2, end2), w2.Output(), steps2}, []any{ending(w, end), w.Output(), steps + min(i, 1)})
		}
	}
	for _, c := range [][2]string{
		{"(let ((x 1)) (list (car '(1)) x))", "(let ((x 1)) (let ((b x)) (list (car '(1)) b)))"},
		{"(progn (set 'x 1) (set 'y 2) (list x y))", "(progn (set 'y 2) (set 'x 1) (list x y))"},
	} {
		equal(t, c[1], ran(t, newWorld(t), c[1]), ran(t, newWorld(t), c[0]))
	}
}

// P21.3: behind runs that no limit ended symbols have the values that they had, whatever Cleanup did.
func TestBindings(t *testing.T) {
	w := newWorld(t)
	for _, c := range []struct{ text, want string }{
		{"(let ((x 1)) (declare (special x)) (let ((x 2) (y 3)) (declare (special x y)) (car 5)))", "nil nil"},
		{"(progn (set 'x 0) (let ((x 1)) (declare (special x)) (set 'x 2) (set 'y 5)))", "0 5"},
		{"(block a (let ((x 1)) (declare (special x)) (unwind-protect (return-from a 1) (set 'y x))))", "0 1"},
		{"(progv '(x y x) '(1 2) (set 'y 9) (throw 1 2))", "0 1"},
		{"(progv '(x nil) nil 1)", "0 1"},
		{"(let ((x (set 'x 7)) (y (car 5))) (declare (special x y)) 1)", "7 1"},
	} {
		ran(t, w, c.text)
		got := ran(t, w, "(list (if (boundp 'x) x) (if (boundp 'y) y))")
		equal(t, c.text, got, "= ("+c.want+")")
	}
	keyword := api.Core{Op: api.CoreBind, Syms: []api.Form{form(t, "x"), form(t, ":k")}, Kids: []api.Core{tree(t, "8"), tree(t, "9"), tree(t, "x")}}
	end, _ := meaning.Run(w, keyword, 100)
	equal(t, "a constant", ending(w, end), "! PROGRAM-ERROR :k")
	equal(t, "X behind it", ran(t, w, "x"), "= 7")
	set := api.Core{Op: api.CoreSetSpecial, Data: form(t, ":k"), Kids: []api.Core{tree(t, "8")}}
	end, _ = meaning.Run(w, set, 100)
	equal(t, "SETQ of a constant", ending(w, end), "! PROGRAM-ERROR :k")
	h := w.Heap()
	circle, _ := h.New(heap.KindCons, 2)
	h.Set(circle, 1, circle)
	s, _ := w.Symbol("COMMON-LISP-USER", "CIRCLE")
	w.SetValue(s, circle)
	end, _ = meaning.Run(w, tree(t, "(progv circle nil 1)"), 100)
	equal(t, "a circle", ending(w, end), "! TYPE-ERROR #0=(nil . #0#) list")
}
