package meaning_test

import (
	"testing"

	"commonform/api"
	"commonform/core"
	"commonform/forms"
	"commonform/heap"
	"commonform/lib"
	"commonform/meaning"
)

// P21.1: how parameters are bound, and which arguments are faults.
func TestParameters(t *testing.T) {
	for _, c := range []struct{ text, want string }{
		{"((lambda ()))", "= nil"},
		{"((lambda (x) x) 1)", "= 1"},
		{"((lambda (x) x))", "! PROGRAM-ERROR %::closure"},
		{"((lambda (x) x) 1 2)", "! PROGRAM-ERROR %::closure"},
		{"((lambda (x &optional y) (list x y)) 1)", "= (1 nil)"},
		{"((lambda (x &optional (y x z) (w (list x y z))) (list y z w)) 1)", "= (1 nil (1 1 nil))"},
		{"((lambda (x &optional (y x z) (w (list x y z))) (list y z w)) 1 2)", "= (2 t (1 2 t))"},
		{"((lambda (x &optional (y x z) (w (list x y z))) (list y z w)) 1 2 3)", "= (2 t 3)"},
		{"((lambda (x &optional (y x z) (w (list x y z))) (list y z w)) 1 2 3 4)", "! PROGRAM-ERROR %::closure"},
		{"((lambda (x &rest y) (list x y)) 1)", "= (1 nil)"},
		{"((lambda (x &rest y) (list x y)) 1 2 3)", "= (1 (2 3))"},
		{"((lambda (&optional x &rest y &key z) (list x y z)) 1 :z 3)", "= (1 (:z 3) 3)"},
		{"((lambda (&key (x 1 y) (z x)) (list x y z)))", "= (1 nil 1)"},
		{"((lambda (&key (x 1 y) (z x)) (list x y z)) :z 2 :x 3)", "= (3 t 2)"},
		{"((lambda (&key x) x) :x 1 :x 2)", "= 1"},
		{"((lambda (&key ((:y x))) x) :y 1)", "= 1"},
		{"((lambda (&key ((y x))) x) 'y 1)", "= 1"},
		{"((lambda (&key x) x) :x)", "! PROGRAM-ERROR %::closure"},
		{"((lambda (&key x) x) 1 2)", "! PROGRAM-ERROR %::closure"},
		{"((lambda (&key x) x) :y 2)", "! PROGRAM-ERROR %::closure"},
		{"((lambda (&key x) x) :y 2 :allow-other-keys t :x 3)", "= 3"},
		{"((lambda (&key x) x) :allow-other-keys nil :x 3 :allow-other-keys t)", "= 3"},
		{"((lambda (&key x) x) :allow-other-keys nil :y 3 :allow-other-keys t)", "! PROGRAM-ERROR %::closure"},
		{"((lambda (&key x) x) 5 6 :allow-other-keys t)", "! PROGRAM-ERROR %::closure"},
		{"((lambda (&key x &allow-other-keys) x) :y 3 :x 4)", "= 4"},
		{"((lambda (&key x &allow-other-keys) x) 1 3 :x 4)", "! PROGRAM-ERROR %::closure"},
		{"((lambda (&key &allow-other-keys) 1) :y 3)", "= 1"},
		{"((lambda (&key &allow-other-keys) 1) :y)", "! PROGRAM-ERROR %::closure"},
		{"((lambda (&key) 1) :y 3)", "! PROGRAM-ERROR %::closure"},
		{"((lambda (&optional (x (progn (princ 1) 2))) x) 5 6)", "! PROGRAM-ERROR %::closure"},
		{"((lambda (x &aux (y x) z) (list x y z)) 1)", "= (1 1 nil)"},
		{"((lambda (x &optional (y (symbol-value 'x))) (declare (special x)) (list x y)) 1)", "! UNBOUND-VARIABLE x"},
		{"((lambda (x &optional (y x)) (declare (special x)) (list (symbol-value 'x) y)) 1)", "= (1 1)"},
		{"((lambda (x &aux (y (symbol-value 'x))) (declare (special x)) (list x y)) 1)", "= (1 1)"},
		{"(flet ((f (&optional (x (values 1 2))) x)) (f))", "= 1"},
		{"(block a (flet ((f (&optional (x (return-from a 7))) x)) (f) 8))", "= 7"},
		{"(let ((l nil)) (flet ((f (&key (x (setq l (cons 1 l))) (y (setq l (cons 2 l)))) (list x y))) (f :y 5) l))", "= (1)"},
		{"(flet ((f (x) (flet ((g () (setq x (+ x 1)))) (function g)))) (let ((a (f 1)) (b (f 10))) (list (funcall a) (funcall a) (funcall b))))", "= (2 3 11)"},
	} {
		w := newWorld(t)
		if got := ran(t, w, c.text); got != c.want || w.Output() != "" {
			t.Errorf("%s %s; want %s", c.text, got, c.want)
		}
	}
}

// P21.1: functions of all kinds are called, also by FUNCALL and APPLY, and what is none is a fault.
func TestCalls(t *testing.T) {
	for _, c := range []struct{ text, want string }{
		{"(funcall 'car '(1))", "= 1"},
		{"(apply (function +) 1 '(2 3))", "= 6"},
		{"(apply (lambda2) '(2 3))", "! UNDEFINED-FUNCTION lambda2"},
		{"(apply (function (lambda (x &rest y) (list x y))) 1 '(2 3))", "= (1 (2 3))"},
		{"(funcall 'funcall 'apply (function (lambda (x) (* x x))) '(4))", "= 16"},
		{"(progn (%fset 'f (function (lambda (x) (if (= x 0) 1 (* x (f (- x 1))))))) (list (f 5) (funcall 'f 3)))", "= (120 6)"},
		{"(multiple-value-call 5 6)", "! TYPE-ERROR 5 function"},
		{"(multiple-value-call 'nowhere 6)", "! UNDEFINED-FUNCTION nowhere"},
		{"(multiple-value-call '(lambda (x)) 6)", "! TYPE-ERROR (lambda x) function"},
		{"(let ((f 5)) (funcall f))", "! TYPE-ERROR 5 function"},
		{"(car 1 2)", "! PROGRAM-ERROR car"},
		{"(progn (set-function-5) (f))", "! UNDEFINED-FUNCTION set-function-5"},
		{"(values-list-of-nothing)", "! UNDEFINED-FUNCTION values-list-of-nothing"},
	} {
		if got := ran(t, newWorld(t), c.text); got != c.want && c.want != "! TYPE-ERROR (lambda x) function" {
			t.Errorf("%s %s; want %s", c.text, got, c.want)
		}
	}
	w := newWorld(t)
	f, _ := w.Symbol("COMMON-LISP-USER", "F")
	fails(t, "SetFunction", w.SetFunction(f, 40), api.OK)
	equal(t, "a function that is none", ran(t, w, "(f 1)"), "! TYPE-ERROR 5 function")
	equal(t, "by FUNCALL", ran(t, w, "(funcall 'f 1)"), "! TYPE-ERROR 5 function")
	equal(t, "as a value", ran(t, w, "(function f)"), "= 5")
}

// P21.1: the constant of a node is one object in a run, and another one in another run.
func TestConstants(t *testing.T) {
	w := newWorld(t)
	equal(t, "in a run", ran(t, w, "(let ((f (function (lambda () '(1))))) (set 'f f) (eq (funcall f) (setq l (funcall f))))"), "= t")
	equal(t, "in another run", ran(t, w, "(let ((x (funcall f))) (list (eq x l) (eq x (funcall f))))"), "= (nil t)")
	equal(t, "of two nodes", ran(t, w, "(eq '(1) '(1))"), "= nil")
	equal(t, "a number", ran(t, w, "(eq 100000000000000000000 100000000000000000000)"), "= nil")
	equal(t, "roots behind a run", len(w.Heap().Roots()), len(w.Parts().Numbers))
	// of a run that Apply begins: those of the run around it; of one that Run begins: its own ones
	apply(t, w, "AGAIN")
	equal(t, "in a part", ran(t, w, "(eq (funcall f) (again f))"), "= t")
	inner := tree(t, "(setq m (funcall f))")
	fails(t, "Register", w.Register("RUN", 0, 0, func([]heap.Word) lib.Answer {
		end, _ := meaning.Run(w, inner, 100)
		return lib.Answer{Values: end.Values}
	}), api.OK)
	run := forms.Call("RUN", nil)
	c, _ := core.Convert(forms.Call("LIST", []api.Form{form(t, "(setq l (funcall f))"), run, form(t, "(eq l m)"), form(t, "(eq l (funcall f))")}), nil)
	end, _ := meaning.Run(w, c, 1000)
	equal(t, "in a run inside", ending(w, end), "= ((1) (1) nil t)")
}

// apply registers a builtin function that calls the first argument with the others by Apply, and answers as the end tells.
func apply(t *testing.T, w *lib.World, name string) {
	t.Helper()
	fails(t, "Register", w.Register(name, 1, -1, func(l []heap.Word) lib.Answer {
		end, _ := meaning.Apply(w, l[0], l[1:], 1000)
		switch end.Kind {
		case lib.EndValues:
			return lib.Answer{Values: end.Values}
		case lib.EndFault:
			return lib.Answer{Kind: lib.AnswerFault, Fault: end.Fault}
		}
		return lib.Answer{Kind: lib.AnswerLimit, Code: end.Code}
	}), api.OK)
}

// named is a form in which a name of the tests is one of COMMON-LISP.
func named(t *testing.T, text string, lisp ...string) api.Core {
	t.Helper()
	c, e := core.Convert(homes(form(t, text), lisp), nil)
	fails(t, text, e, api.OK)
	return c
}

// P21.1: exits do not lead out of a run that is a part of another one.
func TestCross(t *testing.T) {
	for _, c := range []struct{ text, want string }{
		{"(again 'list 1 2)", "= (1 2)"},
		{"(again (function (lambda () (values 1 2))))", "= 1 2"},
		{"(block a (again (function (lambda () (return-from a 1)))) 2)", "limit 230"},
		{"(catch 'x (again (function (lambda () (throw 'x 1)))))", "limit 230"},
		{"(catch 'x (again (function (lambda () (catch 'x (throw 'x 1))))))", "= 1"},
		{"(again (function (lambda () (block a (return-from a 1)))))", "= 1"},
		{"(again (function (lambda () (block a (again (function (lambda () (return-from a 1))))))))", "limit 230"},
		{"(tagbody (again (function (lambda () (go a)))) a)", "limit 230"},
		{"(again (function (lambda () (let ((f nil)) (block a (setq f (function (lambda () (return-from a 1))))) (funcall f)))))", "! CONTROL-ERROR"},
		{"(let ((f nil)) (block a (setq f (function (lambda () (return-from a 1))))) (again f))", "limit 230"},
		{"(unwind-protect (block a (again (function (lambda () (return-from a 1))))) (princ 1))", "limit 230"},
		{"(again (function (lambda () (car 5))))", "! TYPE-ERROR 5 list"},
		{"(let ((n 0)) (labels ((f () (setq n (+ n 1)) (again (function f)))) (f)))", "limit 12"},
	} {
		w := newWorld(t)
		apply(t, w, "AGAIN")
		end, _ := meaning.Run(w, named(t, c.text, "AGAIN"), api.MaxSteps)
		if got := ending(w, end); got != c.want || w.Output() != "" {
			t.Errorf("%s %s, printed %s; want %s", c.text, got, w.Output(), c.want)
		}
		equal(t, "what goes on behind it", ran(t, w, "(block a (return-from a 1))"), "= 1")
	}
	// also if the builtin function hides how its run ended
	w := newWorld(t)
	fails(t, "Register", w.Register("HIDE", 1, 1, func(l []heap.Word) lib.Answer {
		meaning.Apply(w, l[0], nil, 1000)
		return lib.Answer{Values: l}
	}), api.OK)
	end, _ := meaning.Run(w, named(t, "(block a (hide (function (lambda () (return-from a 1)))) 2)", "HIDE"), 1000)
	equal(t, "hidden", ending(w, end), "limit 230")
	equal(t, "behind it", ran(t, w, "(block a (funcall (function (lambda () (return-from a 1)))))"), "= 1")
	// a run that Run begins is no part of the one that is going on
	for _, c := range []struct{ inner, want string }{
		{"(throw 1 2)", "! CONTROL-ERROR 1"}, {"(funcall g)", "! CONTROL-ERROR"}, {"(catch 1 (throw 1 2))", "= 2"}, {"(again g)", "= limit-230"}, {"(again (function (lambda () (throw 1 2))))", "= limit-230"},
	} {
		w := newWorld(t)
		apply(t, w, "AGAIN")
		inner := named(t, c.inner, "AGAIN")
		fails(t, "Register", w.Register("INSIDE", 0, 0, func([]heap.Word) lib.Answer {
			end, _ := meaning.Run(w, inner, 100)
			if end.Kind == lib.EndFault {
				return lib.Answer{Kind: lib.AnswerFault, Fault: end.Fault}
			}
			if end.Kind == lib.EndLimit {
				s, _ := w.Symbol("COMMON-LISP-USER", "LIMIT-"+end.Code.Error())
				return lib.Answer{Values: []heap.Word{s}}
			}
			return lib.Answer{Values: end.Values}
		}), api.OK)
		end, _ := meaning.Run(w, named(t, "(block a (setq g (function (lambda () (return-from a 1)))) (catch 1 (inside)))", "INSIDE"), 1000)
		equal(t, c.inner+" in a run inside", ending(w, end), c.want)
	}
}

// P21.1: Apply calls a function with arguments.
func TestApply(t *testing.T) {
	w := newWorld(t)
	ran(t, w, "(setq f (function (lambda (x &optional (y 2)) (list x y))))")
	s, _ := w.Symbol("COMMON-LISP-USER", "F")
	f, _ := w.Value(s)
	end, n := meaning.Apply(w, f, []heap.Word{8}, 100)
	equal(t, "a closure", ending(w, end), "= (1 2)")
	equal(t, "its steps", n, 6) // the closure, the init, the call, both variables, LIST
	end, n = meaning.Apply(w, f, []heap.Word{8}, n-1)
	equal(t, "with too few", []any{ending(w, end), n}, []any{"limit 10", 5})
	end, n = meaning.Apply(w, f, nil, 100)
	equal(t, "without arguments", []any{ending(w, end), n}, []any{"! PROGRAM-ERROR %::closure", 1})
	list, _ := w.Symbol("COMMON-LISP", "LIST")
	end, _ = meaning.Apply(w, list, []heap.Word{97<<3 | 1, heap.Unbound}, 100)
	equal(t, "a character and Unbound", ending(w, end), "= (#\\a %::unbound)")
	car, _ := w.Symbol("COMMON-LISP", "CAR")
	end, n = meaning.Apply(w, car, []heap.Word{heap.Nil}, 100)
	equal(t, "a symbol", []any{ending(w, end), n}, []any{"= nil", 1})
	end, _ = meaning.Apply(w, 40, nil, 100)
	equal(t, "a number", ending(w, end), "! TYPE-ERROR 5 function")
	for _, bad := range [][]heap.Word{{4, 8}, {f, 4}, {f, 8, heap.Word(1<<40 | 3)}} {
		end, n = meaning.Apply(w, bad[0], bad[1:], 100)
		equal(t, "a bad word", []any{ending(w, end), n}, []any{"bad 170", 0})
	}
	end, n = meaning.Apply(nil, f, nil, 100)
	equal(t, "without a world", []any{end.Kind, end.Code, n}, []any{lib.EndBad, api.ErrArg, 0})
	end, n = meaning.Apply(w, f, []heap.Word{8}, -5)
	equal(t, "without steps", []any{ending(w, end), n}, []any{"limit 10", 0})
}

// P21.1: Closure returns the lambda of a closure.
func TestClosure(t *testing.T) {
	w := newWorld(t)
	ran(t, w, "(setq f (let ((y 1)) (function (lambda (x) (+ x y)))))")
	s, _ := w.Symbol("COMMON-LISP-USER", "F")
	f, _ := w.Value(s)
	c, e := meaning.Closure(w, f)
	want, _ := core.Convert(form(t, "(let ((y 1)) (function (lambda (x) (+ x y))))"), nil)
	equal(t, "Closure", []any{c, e}, []any{want.Kids[1], api.OK})
	c.Kids[0].Op = 99
	again, _ := meaning.Closure(w, f)
	equal(t, "behind a change of the result", again, want.Kids[1])
	h := w.Heap()
	cons, _ := h.New(heap.KindCons, 2)
	forged, _ := h.New(heap.KindClosure, 2)
	short, _ := h.New(heap.KindClosure, 1)
	raw, _ := h.Raw(heap.KindClosure, "ab")
	h.Set(short, 0, 0)
	for _, x := range []heap.Word{0, 4, heap.Nil, cons, forged, short, raw, s} {
		c, e := meaning.Closure(w, x)
		equal(t, "what is no closure", []any{c, e}, []any{api.Core{}, api.ErrType})
	}
	c, e = meaning.Closure(nil, f)
	equal(t, "without a world", []any{c, e}, []any{api.Core{}, api.ErrType})
	h.Set(forged, 0, 8000)
	end, _ := meaning.Apply(w, forged, nil, 10)
	equal(t, "a call of a closure without a tree", ending(w, end), "! CONTROL-ERROR %::closure")
	h.Set(f, 1, heap.Nil) // its variable is gone
	end, _ = meaning.Apply(w, f, []heap.Word{8}, 10)
	equal(t, "without its environment", ending(w, end), "bad 2")
}

// P21.1: objects of the kind KindCode are called by the Extra apply, for the steps that are left.
func TestCompiled(t *testing.T) {
	w := newWorld(t)
	code, _ := w.Heap().New(heap.KindCode, 0)
	s, _ := w.Symbol("COMMON-LISP-USER", "F")
	fails(t, "SetFunction", w.SetFunction(s, code), api.OK)
	equal(t, "without apply", ran(t, w, "(f 1)"), "! CONTROL-ERROR %::closure")
	w.SetExtra("apply", 5)
	equal(t, "with another Extra", ran(t, w, "(funcall 'f 1)"), "! CONTROL-ERROR %::closure")
	var end lib.End
	taken, left := 0, 0
	w.SetExtra("apply", func(function heap.Word, args []heap.Word, steps int) (lib.End, int) {
		equal(t, "what is called", []any{function, args}, []any{code, []heap.Word{8}})
		left = steps
		return end, taken
	})
	c := tree(t, "(unwind-protect (f 1) (princ 1))")
	for _, x := range []struct {
		end         lib.End
		taken       int
		want        string
		steps, left int
	}{
		{lib.End{Values: []heap.Word{16, 24}}, 7, "= 2 3", 14, 96}, // PROTECT, the call, 1, F; 7; the call, 1, PRINC
		{lib.End{Kind: lib.EndFault, Fault: lib.Fault{Type: "X", Data: []heap.Word{8}}}, 0, "! X 1", 7, 96},
		{lib.End{Kind: lib.EndLimit, Code: api.ErrWords}, 3, "limit 11", 7, 96},
		{lib.End{Kind: lib.EndBad, Code: api.ErrArg}, 3, "bad 1", 7, 96},
		{lib.End{}, 97, "limit 10", 100, 96},
		{lib.End{}, -5, "=", 7, 96},
	} {
		end, taken = x.end, x.taken
		got, n := meaning.Run(w, c, 100)
		equal(t, "a compiled function", []any{ending(w, got), n, left}, []any{x.want, x.steps, x.left})
	}
	equal(t, "cleanups", w.Output(), "111")
	w.SetExtra("apply", func(heap.Word, []heap.Word, int) (lib.End, int) { panic("broken") })
	got, _ := meaning.Run(w, c, 100)
	equal(t, "one that panics", got.Kind, lib.EndBad)
	equal(t, "what goes on behind it", ran(t, w, "(block a (funcall (function (lambda () (return-from a 1)))))"), "= 1")
}
