package macro_test

import (
	"strings"
	"testing"

	"commonform/api"
	"commonform/core"
	"commonform/forms"
	"commonform/lambda"
	"commonform/lib"
	"commonform/macro"
)

// all expands a form with the macros of all layers.
func (s *session) all(text string) (api.Form, int, lib.End) {
	s.t.Helper()
	return macro.All(s.w, s.table, form(s.t, text), s.fresh)
}

// P22.1, P22.2, P22.4: the expansions of all calls in a form, from the outside to the inside.
func TestAll(t *testing.T) {
	s := newSession(t)
	s.run("(defmacro twice (x) (list 'progn x x)) (defmacro nothing () nil) (defmacro five () 5) (defmacro other (x y) (list 'when y x)) (defmacro cond (x) (list 'list x 'mine)) (defmacro no-values () (values)) (defmacro locally (x) 5)")
	s.table.Expanders = append(s.table.Expanders, macro.Named{Name: "LET*"})
	s.fresh = 0
	for _, c := range []struct {
		from, to string
		next     int
	}{
		{"x", "x", 0}, {"5", "5", 0}, {"\"when\"", "\"when\"", 0}, {"#((when a))", "#((when a))", 0}, {"when", "when", 0}, {"nil", "nil", 0},
		{"(f (when a b) 'c)", "(f (if a (progn b)) 'c)", 0}, {"(or (or a b) c)", "(let ((%0 (let ((%1 a)) (if %1 %1 b)))) (if %0 %0 c))", 2}, {"(twice (twice (f)))", "(progn (progn (f) (f)) (progn (f) (f)))", 0}, {"(other a (and b c))", "(if (if b c) (progn a))", 0},
		{"(cond (f))", "(list (f) mine)", 0}, {"(no-values)", "nil", 0}, {"(incf (car x))", "(let* ((%0 x) (%1 (+ (car %0) 1))) (progn (rplaca %0 %1) %1))", 2}, {"(loop (when a b))", "(block nil (tagbody %0 (if a (progn b)) (go %0)))", 1},
		{"(u::when a)", "(u::when a)", 0}, {"(reader::backquote (a (reader::comma (when b c))))", "(append (list 'a) (list (if b (progn c))) 'nil)", 0},
		// what is not evaluated stays
		{"'(when a)", "'(when a)", 0}, {"(quote (when . a))", "'(when . a)", 0}, {"#'when", "#'when", 0}, {"(go when)", "(go when)", 0}, {"(go 5)", "(go 5)", 0}, {"(the (when a) (when b))", "(the (when a) (if b (progn)))", 0}, {"(load-time-value (when a) (when b))", "(load-time-value (if a (progn)) (when b))", 0}, {"(load-time-value (when a))", "(load-time-value (if a (progn)))", 0},
		{"(block when (when a))", "(block when (if a (progn)))", 0}, {"(return-from when (when a))", "(return-from when (if a (progn)))", 0}, {"(return-from nil)", "(return-from nil)", 0},
		// the parts of special forms
		{"(if (when a) (when b) (when c))", "(if (if a (progn)) (if b (progn)) (if c (progn)))", 0}, {"(progn (when a) (when b))", "(progn (if a (progn)) (if b (progn)))", 0}, {"(progn)", "(progn)", 0}, {"(catch (when a) (when b))", "(catch (if a (progn)) (if b (progn)))", 0}, {"(throw (when a) (when b))", "(throw (if a (progn)) (if b (progn)))", 0},
		{"(unwind-protect (when a) (when b))", "(unwind-protect (if a (progn)) (if b (progn)))", 0}, {"(multiple-value-call (when a) (when b))", "(multiple-value-call (if a (progn)) (if b (progn)))", 0}, {"(multiple-value-prog1 (when a) (when b))", "(multiple-value-prog1 (if a (progn)) (if b (progn)))", 0}, {"(progv (when a) (when b) (when c))", "(progv (if a (progn)) (if b (progn)) (if c (progn)))", 0},
		{"(setq a (when b) c (when d))", "(setq a (if b (progn)) c (if d (progn)))", 0}, {"(setq)", "(setq)", 0}, {"(let ((a (when b)) (c) d) (declare (when e)) (when f))", "(let ((a (if b (progn))) (c) d) (declare (when e)) (if f (progn)))", 0}, {"(let* ((a (when b))) (when c))", "(let* ((a (if b (progn)))) (if c (progn)))", 0}, {"(let ())", "(let ())", 0},
		{"(locally (declare (special a)) (when b))", "(locally (declare (special a)) (if b (progn)))", 0}, {"(locally)", "(locally)", 0}, {"((lambda (a) (when b)) (when c))", "((lambda (a) (if b (progn))) (if c (progn)))", 0},
		{"#'(lambda (when &optional o (p (when a)) (q (when b) r) &rest s &key k (l (when c)) ((m n) (when d) x) &allow-other-keys &aux (y (when e)) (z) w) (declare (when f)) (when g))", "#'(lambda (when &optional o (p (if a (progn))) (q (if b (progn)) r) &rest s &key k (l (if c (progn))) ((m n) (if d (progn)) x) &allow-other-keys &aux (y (if e (progn))) (z) w) (declare (when f)) (if g (progn)))", 0},
		{"(flet ((f (a &optional (b (when c))) (when d)) (g () (when e))) (when f))", "(flet ((f (a &optional (b (if c (progn)))) (if d (progn))) (g () (if e (progn)))) (if f (progn)))", 0}, {"(labels ((f () (when a))) (declare (special b)) (when c))", "(labels ((f () (if a (progn)))) (declare (special b)) (if c (progn)))", 0},
		{"(tagbody when (when a) 5 (when b) nil)", "(tagbody when (if a (progn)) 5 (if b (progn)) nil)", 0}, {"(eval-when (:execute) (when a) b)", "(progn (if a (progn)) b)", 0}, {"(eval-when (x :load-toplevel) a)", "(progn a)", 0}, {"(eval-when (eval) a)", "(progn a)", 0}, {"(eval-when (load))", "(progn)", 0}, {"(eval-when (:compile-toplevel) (when))", "nil", 0}, {"(eval-when () a)", "nil", 0}, {"(eval-when (u::eval :eval) a)", "nil", 0},
		// what a form in a TAGBODY expands to is no tag
		{"(tagbody (nothing) (nothing) (five) a (go a))", "(tagbody (progn nil) (progn nil) (progn 5) a (go a))", 0}, {"(tagbody (and) (cond x))", "(tagbody (progn t) (list x mine))", 0},
		// local functions and macros
		{"(flet ((when (x) x)) (when 1))", "(flet ((when (x) x)) (when 1))", 0}, {"(flet ((when (x) (when x))) (when 1))", "(flet ((when (x) (if x (progn)))) (when 1))", 0}, {"(labels ((when (x) (when x))) (when 1))", "(labels ((when (x) (when x))) (when 1))", 0}, {"(list (flet ((when (x) x)) (when 1)) (when 1))", "(list (flet ((when (x) x)) (when 1)) (if 1 (progn)))", 0},
		{"(flet ((twice (x) x)) (twice 1))", "(flet ((twice (x) x)) (twice 1))", 0}, {"(flet ((setf (x y) x)) (setf a b))", "(flet ((setf (x y) x)) (setf a b))", 0}, {"(flet ((if (x y) x)) (if (when a) b))", "(flet ((if (x y) x)) (if (if a (progn)) b))", 0},
		{"(let ((when 1)) (when when))", "(let ((when 1)) (if when (progn)))", 0}, {"(flet ((f (when) (when when))) 1)", "(flet ((f (when) (if when (progn)))) 1)", 0},
		{"(macrolet () (when a))", "(locally (if a (progn)))", 0}, {"(macrolet ((m (x) (list 'list x x)) (k () 5)) (m (k)) (m (when a)))", "(locally (list 5 5) (list (if a (progn)) (if a (progn))))", 2 + bound(t, "(x)") + bound(t, "()")},
		{"(macrolet ((when (x) (list 'list x))) (when (when a)))", "(locally (list (list a)))", 1 + bound(t, "(x)")}, {"(macrolet ((m () 1)) (flet ((m () (m))) (m)))", "(locally (flet ((m () 1)) (m)))", 1 + bound(t, "()")}, {"(flet ((m () 2)) (list (m) (macrolet ((m () 1)) (m)) (m)))", "(flet ((m () 2)) (list (m) (locally 1) (m)))", 1 + bound(t, "()")},
		{"(macrolet ((m () ''inner)) (list (m) (macrolet ((m () ''inmost)) (m)) (m)))", "(locally (list 'inner (locally 'inmost) 'inner))", 2 + 2*bound(t, "()")}, {"(macrolet ((m () 1) (m () 2)) (m))", "(locally 1)", 2 + 2*bound(t, "()")}, {"(macrolet ((m () \"doc\" (declare (special z)) (return-from m 3) 4)) (m))", "(locally 3)", 1 + bound(t, "()")},
		// a macro of a macro's body has the meaning that it has outside
		{"(macrolet ((a () ''yes)) (macrolet ((b () (when t ''no))) (b)))", "(locally (locally 'no))", 2 + 2*bound(t, "()")},
		// symbol macros
		{"(symbol-macrolet () a)", "(locally a)", 0}, {"(symbol-macrolet ((a (car b))) a 'a #'a (a a) (when a a))", "(locally (car b) 'a #'a (a (car b)) (if (car b) (progn (car b))))", 0}, {"(symbol-macrolet ((a (when b c))) a)", "(locally (if b (progn c)))", 0}, {"(symbol-macrolet ((a b) (b 5)) a)", "(locally 5)", 0}, {"(symbol-macrolet ((a 1) (a 2)) a)", "(locally 1)", 0},
		{"(symbol-macrolet ((a 1)) (list a (symbol-macrolet ((a 2)) a) a))", "(locally (list 1 (locally 2) 1))", 0}, {"(symbol-macrolet ((a (f a1))) (let ((a1 1)) a))", "(locally (let ((a1 1)) (f a1)))", 0},
		{"(symbol-macrolet ((a 1)) (let ((a a)) a) a)", "(locally (let ((a 1)) a) 1)", 0}, {"(symbol-macrolet ((a 1) (b 2)) (let* ((a b) (b a) c) a b))", "(locally (let* ((a 2) (b a) c) a b))", 0}, {"(symbol-macrolet ((a 1) (b 2)) (let ((a b) (b a) (c)) a b))", "(locally (let ((a 2) (b 1) (c)) a b))", 0},
		{"(symbol-macrolet ((a 1) (b 2) (c 3) (d 4) (e 5) (g 6)) #'(lambda (a &optional (b b) (h (list a b c) c) &key ((d d) (list c d) e) (i e) &aux (g g) (j g)) (list a b c d e g)))", "(locally #'(lambda (a &optional (b 2) (h (list a b 3) c) &key ((d d) (list c 4) e) (i e) &aux (g 6) (j g)) (list a b c d e g)))", 0},
		{"(symbol-macrolet ((a 1) (b 2)) (flet ((f (a) (list a b)) (b () a)) (list a b (b))))", "(locally (flet ((f (a) (list a 2)) (b () 1)) (list 1 2 (b))))", 0}, {"(symbol-macrolet ((a 1)) (tagbody a (list a) (go a)) (block a (return-from a a)))", "(locally (tagbody a (list 1) (go a)) (block a (return-from a 1)))", 0},
		{"(symbol-macrolet ((a (car b))) (setq a 1))", "(locally (let* ((%0 b) (%1 1)) (progn (rplaca %0 %1) %1)))", 2}, {"(symbol-macrolet ((a c)) (setq a (list a)))", "(locally (setq c (list c)))", 0}, {"(symbol-macrolet ((a c) (b d)) (setq x 1 a 2 y b b 4))", "(locally (progn (setq x 1) (setq c 2) (setq y d) (setq d 4)))", 0}, {"(symbol-macrolet ((a c)) (setq x a y 2))", "(locally (setq x c y 2))", 0},
		{"(symbol-macrolet ((a c)) (let ((a 1)) (setq a 2)))", "(locally (let ((a 1)) (setq a 2)))", 0}, {"(symbol-macrolet ((a b)) (symbol-macrolet ((b (car c))) (incf a)))", "(locally (locally (let* ((%0 (+ (car c) 1))) (let* ((%1 c) (%2 %0)) (progn (rplaca %1 %2) %2)))))", 3},
		{"(with-slots (a) (f) (setq a (list a)))", "(let ((%0 (f))) (locally (let* ((%1 %0) (%2 (list (slot-value %0 'a)))) (progn (%set-slot-value %1 'a %2) %2))))", 3}, {"(symbol-macrolet ((a 1)) (twice a) (macrolet ((a () 2)) (list a (a))))", "(locally (progn 1 1) (locally (list 1 2)))", 1 + bound(t, "()")},
		// declarations in front of its forms are no part of what it becomes
		{"(symbol-macrolet () (declare (special a)) a)", "(locally a)", 0}, {"(symbol-macrolet ((a b)) (declare (special b)) (declare (ignore c) (special a)) a (when b a))", "(locally b (if b (progn b)))", 0}, {"(symbol-macrolet ((a b)) (declare))", "(locally)", 0}, {"(symbol-macrolet () (declare . 5) a)", "(locally a)", 0}, {"(symbol-macrolet () (u::declare a) (declare-a))", "(locally (u::declare a) (declare-a))", 0},
		{"(symbol-macrolet ((a b)) (declare (special b)) (symbol-macrolet ((c a)) (declare (special a)) (list a c)))", "(locally (locally (list b b)))", 0}, {"(with-slots (a) (f) (declare (special b)) a)", "(let ((%0 (f))) (locally (slot-value %0 'a)))", 1}, {"(twice (symbol-macrolet () (declare (special a)) a))", "(progn (locally a) (locally a))", 0},
		// those of other forms stay, inside of it and elsewhere
		{"(symbol-macrolet ((a b)) (declare (special b)) (locally (declare (special c)) a) (let (d) (declare (special d)) a))", "(locally (locally (declare (special c)) b) (let (d) (declare (special d)) b))", 0}, {"(macrolet () (declare (special a)) a)", "(locally (declare (special a)) a)", 0},
		// at the top
		{"(defmacro m (x) x)", "'m", 0}, {"(declaim (special x))", "nil", 0}, {"(defun f (x) (when x))", "(progn (%fset 'f #'(lambda (x) (block f (if x (progn))))) 'f)", 0},
		// special forms are no macros, whatever has their names
		{"(macrolet ((if (x) x)) (if (when a) b))", "(locally (if (if a (progn)) b))", 1 + bound(t, "(x)")}, {"(let* () (locally (when a)))", "(let* () (locally (if a (progn))))", 0},
		// what is wrong in a function that is converted is not looked at
		{"#'(lambda (a a &optional (a (when b))) (when a))", "#'(lambda (a a &optional (a (if b (progn)))) (if a (progn)))", 0}, {"(let ((a 1) (a 2)) (go b))", "(let ((a 1) (a 2)) (go b))", 0}, {"(tagbody a a (return-from b))", "(tagbody a a (return-from b))", 0}, {"(locally (declare 5) (when a))", "(locally (declare 5) (if a (progn)))", 0},
		// labels in what is not evaluated
		{"(when a '#1=(b . #1#))", "(if a (progn '#1=(b . #1#)))", 0},
	} {
		got, next, end := s.all(c.from)
		if end.Kind != lib.EndValues || len(end.Values) > 0 {
			t.Errorf("%s: %s", c.from, ending(s.w, end))
			continue
		}
		same(t, c.from, got, form(t, c.to))
		if next != c.next {
			t.Errorf("%s: %d is next; want %d", c.from, next, c.next)
		}
		again, next, end := macro.All(s.w, s.table, got, 50)
		same(t, c.from+" again", again, got)
		if end.Kind != lib.EndValues || next != 50 {
			t.Errorf("%s again: %s, %d", c.from, ending(s.w, end), next)
		}
	}
}

// bound returns how many fresh variables Bind takes for a lambda list of a macro.
func bound(t *testing.T, list string) int {
	t.Helper()
	l, e := lambda.Parse(form(t, list), true)
	fails(t, list, e, api.OK)
	_, next, e := lambda.Bind(l, form(t, "x"), nil, 0)
	fails(t, list, e, api.OK)
	return next
}

// P22.1: what All tells of forms that it cannot expand.
func TestAllErrors(t *testing.T) {
	s := newSession(t)
	s.run("(defmacro endless () '(endless)) (defmacro deeper (x) (list 'list (list 'deeper x))) (defmacro wider (x) (list 'wider (list 'quote (list x x x)))) (defmacro longer (x) (list 'list 1 2 3 4 5 6 7 8 9 10 11 12 13 14 15 16 17 18 19 20 21 22 23 24 25 (list 'longer x))) " +
		"(defmacro declares () '(declare (special x))) (defmacro tops () '(defmacro m2 ())) (defmacro one (x) x) (defmacro fault () (car 1)) (defmacro throws () (throw 'a 1)) (defmacro circle () (let ((x (list 'list))) (rplacd x x))) (defmacro slow () (tagbody a (go a))) (defmacro hash () (make-hash-table 'eq)) (defmacro again () '(progn (defmacro m2 ())))")
	fault := "! TYPE-ERROR 1 list"
	bad := func(e api.Errno) string { return "bad " + e.Error() }
	for _, c := range []struct{ from, want string }{
		{"(when)", bad(api.ErrForm)}, {"(f (when . a))", bad(api.ErrForm)}, {"(f . a)", bad(api.ErrForm)}, {"(5 a)", bad(api.ErrForm)}, {"((f) a)", bad(api.ErrForm)}, {"(nil a)", bad(api.ErrForm)}, {"(t)", bad(api.ErrForm)}, {"(:k)", bad(api.ErrForm)}, {"(\"f\")", bad(api.ErrForm)}, {"((lambda) a)", bad(api.ErrForm)}, {"((u::lambda ()) a)", bad(api.ErrForm)},
		{"(quote)", bad(api.ErrForm)}, {"(quote a b)", bad(api.ErrForm)}, {"(quote . a)", bad(api.ErrForm)}, {"(function)", bad(api.ErrForm)}, {"(function a b)", bad(api.ErrForm)}, {"(function 5)", bad(api.ErrForm)}, {"(function nil)", bad(api.ErrForm)}, {"(function (setf f))", bad(api.ErrForm)}, {"(function (lambda))", bad(api.ErrForm)}, {"(function (lambda x))", bad(api.ErrForm)}, {"(function (lambda (5)))", bad(api.ErrForm)}, {"(function (lambda ((a b))))", bad(api.ErrForm)}, {"(function (lambda () . a))", bad(api.ErrForm)},
		{"(if)", bad(api.ErrForm)}, {"(if a)", bad(api.ErrForm)}, {"(if a b c d)", bad(api.ErrForm)}, {"(progn . a)", bad(api.ErrForm)}, {"(let)", bad(api.ErrForm)}, {"(let a)", bad(api.ErrForm)}, {"(let (1))", bad(api.ErrForm)}, {"(let (nil))", bad(api.ErrForm)}, {"(let ((a 1 2)))", bad(api.ErrForm)}, {"(let ((:k 1)))", bad(api.ErrForm)}, {"(let (a . b))", bad(api.ErrForm)}, {"(let ((a . 1)))", bad(api.ErrForm)}, {"(let* ((t 1)))", bad(api.ErrForm)},
		{"(setq a)", bad(api.ErrForm)}, {"(setq 1 2)", bad(api.ErrForm)}, {"(setq nil 2)", bad(api.ErrForm)}, {"(block)", bad(api.ErrForm)}, {"(block 1)", bad(api.ErrForm)}, {"(return-from)", bad(api.ErrForm)}, {"(return-from (a))", bad(api.ErrForm)}, {"(return-from a 1 2)", bad(api.ErrForm)}, {"(go)", bad(api.ErrForm)}, {"(go (a))", bad(api.ErrForm)}, {"(go a b)", bad(api.ErrForm)}, {"(catch)", bad(api.ErrForm)}, {"(throw a)", bad(api.ErrForm)}, {"(throw a b c)", bad(api.ErrForm)}, {"(unwind-protect)", bad(api.ErrForm)}, {"(multiple-value-call)", bad(api.ErrForm)}, {"(multiple-value-prog1)", bad(api.ErrForm)}, {"(progv a)", bad(api.ErrForm)},
		{"(flet)", bad(api.ErrForm)}, {"(flet a)", bad(api.ErrForm)}, {"(flet (a))", bad(api.ErrForm)}, {"(flet ((f)))", bad(api.ErrForm)}, {"(flet ((1 ())))", bad(api.ErrForm)}, {"(flet ((nil ())))", bad(api.ErrForm)}, {"(labels ((f 5)))", bad(api.ErrForm)}, {"(labels ((f ()) . a))", bad(api.ErrForm)}, {"(the a)", bad(api.ErrForm)}, {"(the a b c)", bad(api.ErrForm)}, {"(load-time-value)", bad(api.ErrForm)}, {"(load-time-value a b c)", bad(api.ErrForm)},
		{"(macrolet)", bad(api.ErrForm)}, {"(macrolet a)", bad(api.ErrForm)}, {"(macrolet (a))", bad(api.ErrForm)}, {"(macrolet ((m)))", bad(api.ErrForm)}, {"(macrolet ((1 ())))", bad(api.ErrForm)}, {"(macrolet ((m 5)))", bad(api.ErrForm)}, {"(macrolet ((m (a a))))", bad(api.ErrTwice)}, {"(macrolet ((m () . a)))", bad(api.ErrForm)}, {"(macrolet ((m () (when))))", bad(api.ErrForm)}, {"(macrolet ((m () (go a))))", bad(core.ErrScope)}, {"(macrolet ((m () (declare . a))))", bad(core.ErrDeclare)},
		{"(symbol-macrolet)", bad(api.ErrForm)}, {"(symbol-macrolet a)", bad(api.ErrForm)}, {"(symbol-macrolet (a))", bad(api.ErrForm)}, {"(symbol-macrolet ((a)))", bad(api.ErrForm)}, {"(symbol-macrolet ((a 1 2)))", bad(api.ErrForm)}, {"(symbol-macrolet ((1 2)))", bad(api.ErrForm)}, {"(symbol-macrolet ((nil 2)))", bad(api.ErrForm)}, {"(eval-when)", bad(api.ErrForm)}, {"(eval-when a)", bad(api.ErrForm)}, {"(eval-when (eval . a))", bad(api.ErrForm)}, {"(eval-when (eval) . a)", bad(api.ErrForm)},
		// declarations behind the first ones
		{"(let () (declares))", bad(api.ErrForm)}, {"(let* () a (declare (special b)))", bad(api.ErrForm)}, {"(locally (declare) (one (declare)))", bad(api.ErrForm)}, {"(flet ((f () (declares))) a)", bad(api.ErrForm)}, {"(flet () (declares))", bad(api.ErrForm)}, {"#'(lambda () (f) (declare))", bad(api.ErrForm)}, {"(macrolet () (declares))", bad(api.ErrForm)}, {"(symbol-macrolet () (f) (declare))", bad(api.ErrForm)}, {"(symbol-macrolet () (declare) (f) (declare))", bad(api.ErrForm)}, {"(symbol-macrolet () (declare) (declares))", bad(api.ErrForm)}, {"(symbol-macrolet () (declare) . a)", bad(api.ErrForm)}, {"(symbol-macrolet ((a 1 2)) (declare) a)", bad(api.ErrForm)},
		// definitions elsewhere than at the top
		{"(progn (defmacro m ()))", bad(api.ErrForm)}, {"(list (declaim))", bad(api.ErrForm)}, {"(macrolet () (defmacro m ()))", bad(api.ErrForm)}, {"(again)", bad(api.ErrForm)}, {"(eval-when (eval) (declaim))", bad(api.ErrForm)}, {"(tops)", "= "}, {"(one (declaim))", "= "},
		// labels
		{"#1=(f)", bad(api.ErrForm)}, {"(f #1=(g) #1#)", bad(api.ErrForm)}, {"(f #1=5)", bad(api.ErrForm)}, {"(symbol-macrolet ((a '#1=(b))) (f a a))", bad(api.ErrForm)}, {"(symbol-macrolet ((a '#1=(b))) (f a '#1#))", "= "}, {"(f '#1=(a) (one '#1#))", bad(forms.ErrLabel)}, {"(f '#1=(a) '#1#)", "= "},
		// the functions of macros
		{"(fault)", fault}, {"(list 1 (fault))", fault}, {"(throws)", "! CONTROL-ERROR a"}, {"(slow)", "limit 10"}, {"(circle)", bad(forms.ErrCircle)}, {"(one)", "! UNDEFINED-FUNCTION %bad-form"}, {"(one a b)", "! UNDEFINED-FUNCTION %bad-form"}, {"(one . a)", bad(api.ErrForm)}, {"(one a . b)", bad(api.ErrForm)}, {"(one %0)", bad(api.ErrNone)}, {"(one none::x)", bad(api.ErrNone)}, {"(hash)", "= "}, {"(one " + strings.Repeat("x", 61) + ")", bad(api.ErrSize)}, {"(macrolet ((m () (car 1))) (m))", fault},
		// the errors of other layers' macros
		{"(setf 1 2)", bad(250)}, {"(loop collect 1 sum 2)", bad(260)}, {"(assert)", bad(api.ErrForm)}, {"`(a #1=(b))", bad(forms.ErrLabel)}, {"(destructuring-bind (a a) b)", bad(api.ErrTwice)},
		// too many calls, too deep, too large
		{"(endless)", bad(api.ErrDepth)}, {"(deeper a)", bad(api.ErrDepth)}, {"(wider a)", bad(api.ErrSize)}, {"(longer a)", bad(api.ErrSize)}, {"(symbol-macrolet ((a a)) a)", bad(api.ErrDepth)}, {"(symbol-macrolet ((a b) (b a)) (setq a 1))", bad(api.ErrDepth)}, {"(or" + strings.Repeat(" a", 60) + ")", bad(api.ErrDepth)},
		{"(and" + strings.Repeat(" a", 90) + ")", "= "}, {"(and" + strings.Repeat(" a", 110) + ")", bad(api.ErrDepth)}, {"(symbol-macrolet ((a '(1 2 3 4 5 6 7 8 9 10))) (f" + strings.Repeat(" a", 130) + "))", "= "}, {"(symbol-macrolet ((a '(1 2 3 4 5 6 7 8 9 10))) (f" + strings.Repeat(" a", 135) + "))", bad(api.ErrSize)},
	} {
		f, next, end := s.all(c.from)
		if got := ending(s.w, end); got != strings.TrimSpace(c.want) {
			t.Errorf("%.100s: %s; want %s", c.from, got, c.want)
		}
		if end.Kind != lib.EndValues && (f.Kind != 0 || next != 0) {
			t.Errorf("%s: %v, %d with an error", c.from, f, next)
		}
	}
}

// P22.1: how many calls are expanded, and how large and how deep forms may be.
func TestLimits(t *testing.T) {
	s := newSession(t)
	many := func(n int, call, around string) string {
		return strings.Replace(around, "*", strings.Repeat(" "+call, n), 1)
	}
	nested := func(n int, inner string) string {
		return strings.Repeat("(f ", n) + inner + strings.Repeat(")", n)
	}
	for _, c := range []struct {
		what, from string
		want       api.Errno
	}{
		{"1000 symbol macros", many(1000, "a", "(symbol-macrolet ((a 1)) (f*))"), api.OK}, {"1001 symbol macros", many(1001, "a", "(symbol-macrolet ((a 1)) (f*))"), api.ErrDepth}, {"calls", "(symbol-macrolet ((a (and b))) (f" + strings.Repeat(" a", 500) + "))", api.OK}, {"more calls", "(symbol-macrolet ((a (and b))) (f" + strings.Repeat(" a", 500) + " (and a)))", api.ErrDepth},
		{"calls of all sorts", "(symbol-macrolet ((a (one b))) (f" + strings.Repeat(" a", 499) + " (setf c (one d))))", api.OK}, {"more calls of all sorts", "(symbol-macrolet ((a (one b))) (f" + strings.Repeat(" a", 499) + " (setf c (one (one d)))))", api.ErrDepth}, {"calls and a SETQ", "(symbol-macrolet ((a (one b)) (c d)) (f" + strings.Repeat(" a", 499) + " (setq c 1)))", api.OK}, {"more calls and a SETQ", "(symbol-macrolet ((a (one b)) (c d)) (f" + strings.Repeat(" a", 499) + " (setq c c)))", api.ErrDepth},
		{"2000 nodes", many(1997, "1", "(f*)"), api.OK}, {"2000 nodes behind WHEN", many(1993, "1", "(when a*)"), api.OK}, {"2001 nodes behind WHEN", many(1994, "1", "(when a*)"), api.ErrSize},
		{"large in between", many(400, "1", "(f (grow)*)"), api.OK}, {"too large in between", many(600, "1", "(f (grow)*)"), api.ErrSize},
		{"a MACROLET that is gone", many(6, "a", "(macrolet ((m () '("+strings.Repeat("1 ", 1500)+"))) (symbol-macrolet ((a '("+strings.Repeat("1 ", 100)+"))) (f*)))"), api.OK}, {"an EVAL-WHEN that is gone", many(6, "a", "(symbol-macrolet ((a '("+strings.Repeat("1 ", 100)+"))) (eval-when () '("+strings.Repeat("1 ", 1500)+")) (f*))"), api.OK},
		{"declarations that are gone", many(6, "a", "(symbol-macrolet ((a '("+strings.Repeat("1 ", 100)+"))) (declare ("+strings.Repeat("x ", 1500)+")) (f*))"), api.OK}, {"forms behind declarations", many(20, "a", "(symbol-macrolet ((a '("+strings.Repeat("1 ", 100)+"))) (declare (x)) (f*))"), api.ErrSize},
		{"large behind a MACROLET", many(18, "a", "(macrolet ((m () 1)) (symbol-macrolet ((a '("+strings.Repeat("1 ", 100)+"))) (f*)))"), api.OK}, {"too large behind a MACROLET", many(20, "a", "(macrolet ((m () 1)) (symbol-macrolet ((a '("+strings.Repeat("1 ", 100)+"))) (f*)))"), api.ErrSize},
		{"pairs of a SETQ", many(390, "c 1", "(symbol-macrolet ((a b)) (setq a 1*))"), api.OK}, {"more pairs of a SETQ", many(400, "c 1", "(symbol-macrolet ((a b)) (setq a 1*))"), api.ErrSize},
		{"depth 100", nested(99, "a"), api.OK}, {"depth 100 behind WHEN", nested(97, "(when a b)"), api.OK}, {"depth 101 behind WHEN", nested(98, "(when a b)"), api.ErrDepth},
	} {
		s = newSession(t) // with room for all calls
		s.run("(defmacro one (x) x) (defmacro none (x) nil) (defmacro grow () '(none (" + strings.Repeat("1 ", 1500) + ")))")
		_, _, end := s.all(c.from)
		want := lib.End{Kind: lib.EndBad, Code: c.want}
		if c.want == api.OK {
			want = lib.End{}
		}
		if end.Kind != want.Kind || end.Code != want.Code {
			t.Errorf("%s: %s", c.what, ending(s.w, end))
		}
	}
	ones := make([]api.Form, 1998)
	for i := range ones {
		ones[i] = api.Form{Kind: api.FormInt, Text: "1"}
	}
	_, _, end := macro.All(s.w, s.table, forms.Call("F", ones), 0)
	if end.Kind != lib.EndBad || end.Code != api.ErrSize {
		t.Errorf("2001 nodes: %s", ending(s.w, end))
	}
	deep := form(t, nested(99, "a"))
	_, _, end = macro.All(s.w, s.table, forms.Call("F", []api.Form{deep}), 0)
	if end.Kind != lib.EndBad || end.Code != api.ErrDepth {
		t.Errorf("depth 101: %s", ending(s.w, end))
	}
	for binding, levels := range map[string]int{
		"(let ((v ?)) v)": 3, "(let* (w (v ?)) v)": 3, "(let () ?)": 1, "(let* (v) ?)": 1, "(locally ?)": 1, "(f ?)": 1, "(if a ?)": 1, "(setq v ?)": 1, "(tagbody ?)": 1, "(block a ?)": 1, "((lambda () ?))": 2, "((lambda (&optional (v ?)) v))": 4, "#'(lambda () ?)": 2, "#'(lambda (&key (v ?)) v)": 4,
		"(flet ((g () ?)) 1)": 3, "(flet ((g (&aux (v ?)) 2)) 1)": 5, "(labels () ?)": 1, "(labels ((g () ?)) 1)": 3, "(macrolet () ?)": 1, "(symbol-macrolet () ?)": 1, "(eval-when (eval) ?)": 1, "(symbol-macrolet ((v u)) (setq v ?))": 2,
	} {
		around := strings.Replace(binding, "?", "(when a b)", 1) // (IF A (PROGN B)) has a level more
		for n, want := range map[int]api.Errno{97 - levels: api.OK, 98 - levels: api.ErrDepth} {
			_, _, end := s.all(nested(n, around))
			if end.Code != want {
				t.Errorf("%d levels around %s: %s", n, around, ending(s.w, end))
			}
		}
	}
	_, _, end = s.all("(tagbody (symbol-macrolet ((a 1)) (f)) " + strings.Repeat("1 ", 1900) + ")")
	if end.Kind != lib.EndValues {
		t.Errorf("a large TAGBODY: %s", ending(s.w, end))
	}
	// what would be a tag takes 3 nodes more
	for n, want := range map[int]api.Errno{1993: api.OK, 1994: api.ErrSize} {
		body := append([]api.Form{form(t, "(and)")}, ones[:n]...)
		_, _, end := macro.All(s.w, s.table, forms.Call("TAGBODY", body), 0)
		if end.Code != want {
			t.Errorf("(AND) in a TAGBODY with %d tags: %s", n, ending(s.w, end))
		}
	}
	// a function may take 10000 steps
	for _, c := range []struct {
		n    string
		want string
	}{{"300", "= "}, {"1000", "limit 10"}} {
		_, _, end := s.all("(macrolet ((m () (dotimes (i " + c.n + ") (+ 1 1)))) (m))")
		if got := ending(s.w, end); got != strings.TrimSpace(c.want) {
			t.Errorf("%s rounds: %s", c.n, got)
		}
	}
}

// P22.1: worlds, tables and forms that are not right.
func TestWrong(t *testing.T) {
	w := newWorld(t)
	x := form(t, "x")
	if f, next, end := macro.All(nil, macro.New(), x, 5); end.Kind != lib.EndBad || end.Code != api.ErrArg || f.Kind != 0 || next != 0 {
		t.Errorf("All without a world: %v, %d, %v", f, next, end)
	}
	if table, next, is, end := macro.Define(nil, macro.New(), form(t, "(defvar x)"), 5); end.Kind != lib.EndBad || end.Code != api.ErrArg || table.Specials != nil || next != 0 || is {
		t.Errorf("Define without a world: %v, %d, %v, %v", table, next, is, end)
	}
	endless := api.Form{Kind: api.FormVector, Kids: []api.Form{x}}
	endless.Kids[0] = endless
	endless.Kids[0].Kids = endless.Kids
	for _, c := range []struct {
		f    api.Form
		want api.Errno
	}{
		{api.Form{}, api.ErrForm}, {api.Form{Kind: api.FormRef, Text: "1"}, api.ErrForm}, {form(t, "(f '(#1=(a) . #1#))"), api.OK}, {api.Form{Kind: api.FormVector, Kids: make([]api.Form, 2000)}, api.ErrSize}, {api.Form{Kind: api.FormVector, Kids: make([]api.Form, 1999)}, api.ErrForm},
		{api.Form{Kind: api.FormCons, Kids: []api.Form{{Kind: api.FormLabel, Text: "1", Kids: []api.Form{x}}, {Kind: api.FormLabel, Text: "1", Kids: []api.Form{x}}, forms.Nil()}}, api.ErrForm}, {endless, api.ErrDepth},
	} {
		_, _, end := macro.All(w, macro.New(), c.f, 0)
		if end.Code != c.want || (end.Kind == lib.EndBad) != (c.want != api.OK) {
			t.Errorf("All: %s; want %v", ending(w, end), c.want)
		}
		_, _, is, end := macro.Define(w, macro.New(), c.f, 0)
		if end.Code != c.want || is {
			t.Errorf("Define: %s, %v; want %v", ending(w, end), is, c.want)
		}
	}
	odd := macro.Table{Expanders: []macro.Named{
		{Name: "PANICS", Expand: func(api.Form, int) (api.Form, int, api.Errno) { panic("!") }}, {Name: "NONE"},
		{Name: "WRONG", Expand: func(api.Form, int) (api.Form, int, api.Errno) { return api.Form{Kind: 99}, 3, api.OK }},
		{Name: "EMPTY", Expand: func(api.Form, int) (api.Form, int, api.Errno) { return api.Form{Kind: api.FormCons}, 3, api.OK }},
		{Name: "ENDLESS", Expand: func(api.Form, int) (api.Form, int, api.Errno) { return endless, 3, api.OK }},
		{Name: "LABEL", Expand: func(api.Form, int) (api.Form, int, api.Errno) {
			return api.Form{Kind: api.FormLabel, Text: "1", Kids: []api.Form{x}}, 3, api.OK
		}},
	}, Macros: []macro.Macro{{Name: forms.Symbol(user, "NO-TREE")}, {Name: forms.Symbol(user, "NO-LAMBDA"), Lambda: api.Core{Op: api.CoreConst, Data: x}}, {Name: forms.Symbol(user, "NOT-RIGHT"), Lambda: api.Core{Op: api.CoreLambda}}, {Name: forms.Symbol(user, "TWO"), Lambda: function(t, "(a b) a")}}}
	for name, want := range map[string]string{"PANICS": "bad 2", "NONE": "bad 2", "WRONG": "bad 2", "EMPTY": "bad 2", "ENDLESS": "bad 12", "LABEL": "bad 2"} {
		_, _, end := macro.All(w, odd, forms.Call("F", []api.Form{forms.Call(name, nil)}), 0)
		if got := ending(w, end); got != want {
			t.Errorf("%s: %s", name, got)
		}
	}
	for name, want := range map[string]string{"no-tree": "bad 2", "no-lambda": "bad 2", "not-right": "bad 2", "two": "! PROGRAM-ERROR %::closure"} {
		_, _, end := macro.All(w, odd, form(t, "("+name+")"), 0)
		if got := ending(w, end); got != want {
			t.Errorf("%s: %s", name, got)
		}
	}
}

// function returns the tree of a function.
func function(t *testing.T, parts string) api.Core {
	t.Helper()
	c, e := core.Convert(form(t, "#'(lambda "+parts+")"), nil)
	fails(t, parts, e, api.OK)
	return c
}

// P22.1: what defines macros and special variables.
func TestDefine(t *testing.T) {
	s := newSession(t)
	w, table := s.w, macro.New()
	define := func(text string, fresh int) (macro.Table, int, bool, lib.End) {
		return macro.Define(w, table, form(t, text), fresh)
	}
	for _, other := range []string{"x", "5", "nil", "(f)", "(when)", "(defun f ())", "(defmethod f ())", "(u::defvar x)", "defvar", "((defvar x))", "(progn (defvar x))", "(f . g)", "(if)", "(quote)"} {
		got, next, is, end := define(other, 5)
		if len(got.Macros)+len(got.Specials)+len(got.Expanders) > 0 || next != 0 || is || end.Kind != lib.EndValues {
			t.Errorf("%s: %v, %d, %v, %s", other, got, next, is, ending(w, end))
		}
	}
	for wrong, want := range map[string]string{
		"(defvar)": "bad 2", "(defvar . x)": "bad 2", "(defvar 5)": "bad 2", "(defvar nil)": "bad 2", "(defparameter :k 1)": "bad 2", "(defconstant (x) 1)": "bad 2", "(declaim . x)": "bad 2", "(declaim (special 1))": "bad 2", "(declaim (special x . y))": "bad 2", "(declaim (special x t))": "bad 2",
		"(defmacro)": "bad 2", "(defmacro m)": "bad 2", "(defmacro 1 ())": "bad 2", "(defmacro (setf m) ())": "bad 2", "(defmacro m 5)": "bad 2", "(defmacro m (a a))": "bad 8", "(defmacro m () . a)": "bad 2", "(defmacro m () (when))": "bad 2", "(defmacro m () (go a))": "bad 210", "(defmacro m () (declare 5))": "bad 211", "(defmacro m (&optional &optional))": "bad 2",
		"(defmacro m (&optional (a (car . 1))))": "bad 2", "(defmacro m () (macrolet ((n () (car 1))) (n)))": "! TYPE-ERROR 1 list", "(defmacro m () (setf 1 2))": "bad 2", "(defmacro m () (f a #:b))": "bad 2", "(defmacro m () '#1=(a) '#1#)": "bad 2", "(defmacro m () " + strings.Repeat("(f ", 98) + "1" + strings.Repeat(")", 99): "bad 12", "(defmacro m () '(" + strings.Repeat("1 ", 1985) + "))": "bad 4",
	} {
		got, next, is, end := define(wrong, 5)
		if strings.Contains(wrong, "setf 1 2") {
			want = "= " // without an expander it is a call
		}
		if ending(w, end) != strings.TrimSpace(want) {
			t.Errorf("%.60s: %s; want %s", wrong, ending(w, end), want)
		}
		if end.Kind != lib.EndValues && (len(got.Macros)+len(got.Specials) > 0 || next != 0 || is) {
			t.Errorf("%s: %v, %d, %v", wrong, got, next, is)
		}
	}
	specials := ""
	for _, c := range [][2]string{{"(defvar a)", "(a)"}, {"(defvar b 1 2 3)", "(a b)"}, {"(defparameter c)", "(a b c)"}, {"(defconstant a 5)", "(a b c)"}, {"(declaim)", "(a b c)"}, {"(declaim 5 (special) (inline f) (special d a d) (u::special z) (special . (e)))", "(a b c d e)"}, {"(defvar #:a)", "(a b c d e #:a)"}, {"(defvar u::a)", "(a b c d e #:a u::a)"}} {
		before := specials
		longer, next, is, end := define(c[0], 5)
		specials = text(forms.List(longer.Specials))
		if specials != c[1] || next != 5 || !is || end.Kind != lib.EndValues || len(longer.Macros) > 0 {
			t.Errorf("%s: %s, %d, %v, %s", c[0], specials, next, is, ending(w, end))
		}
		if len(table.Specials) > 0 && text(forms.List(table.Specials)) != before {
			t.Errorf("%s changed its table", c[0])
		}
		table = longer
	}
	table.Expanders = []macro.Named{{Name: "FOO"}}
	for i, text := range []string{"(defmacro m (x) (when x x))", "(defmacro n (&whole w (a b) . c) \"doc\" (declare (special z)) (list 'list (list 'quote w) a b (list 'quote c)))", "(defmacro m () 2)"} {
		longer, next, is, end := define(text, 5)
		list := []string{"(x)", "(&whole w (a b) . c)", "()"}[i]
		if len(longer.Macros) != i+1 || next != 6+bound(t, list) || !is || end.Kind != lib.EndValues || len(longer.Specials) != 7 || len(longer.Expanders) != 1 || len(table.Macros) != i {
			t.Fatalf("%s: %v, %d, %v, %s", text, longer, next, is, ending(w, end))
		}
		m := longer.Macros[i].Lambda
		if m.Op != api.CoreLambda || len(m.Pars) != 1 || m.Pars[0].Kind != api.ParamRequired || m.N != 0 || core.Check(m) != api.OK {
			t.Errorf("%s has the tree %v", text, m)
		}
		table = longer
	}
	s.table = table
	for call, want := range map[string]string{"(m)": "= 2", "(n (1 2) 3 4)": "= (((1 2) 3 4) 1 2 (3 4))", "(n (1 2))": "= (((1 2)) 1 2 nil)"} {
		if got := s.run(call); got != want {
			t.Errorf("%s: %s; want %s", call, got, want)
		}
	}
	// what a macro makes of variables that are special
	if got := s.run("(set 'z 7) (defmacro o () z) (defvar z) (defmacro p (z) (q)) (defun q () z) (o)"); !strings.HasSuffix(got, "= 7") {
		t.Errorf("a special variable in a macro: %s", got)
	}
	if got := s.run("(p 8)"); got != "= 8" {
		t.Errorf("a special parameter of a macro: %s", got)
	}
}
