package macro_test

import (
	"fmt"
	"testing"

	"commonform/api"
	"commonform/condition"
	"commonform/heap"
	"commonform/lib"
	"commonform/reader"
)

// classes stand for those of layer 28: instances are vectors of the name of a class and their data.
type classes struct {
	w      *lib.World
	supers map[string][]string
}

func (c *classes) name(x heap.Word) string {
	_, name, _ := c.w.Name(x)
	return name
}

// builtin returns what a builtin function of lib answers.
func (c *classes) builtin(name string, args ...heap.Word) lib.Answer {
	function, _ := c.w.Symbol(lisp, name)
	return c.w.Call(function, args)
}

// list returns the elements of a list.
func (c *classes) list(x heap.Word) []heap.Word {
	var l []heap.Word
	for x != heap.Nil {
		l = append(l, c.builtin("CAR", x).Values[0])
		x = c.builtin("CDR", x).Values[0]
	}
	return l
}

// at returns an element of an instance.
func (c *classes) at(x heap.Word, i int64) heap.Word {
	index, _ := heap.Fix(i)
	return c.builtin("AREF", x, index).Values[0]
}

// below reports whether a class is another one, or below it.
func (c *classes) below(name, other string) bool {
	for _, super := range c.supers[name] {
		if c.below(super, other) {
			return true
		}
	}
	return name == other
}

func values(l ...heap.Word) lib.Answer { return lib.Answer{Values: l} }

// isa answers whether an object is one of a class.
func (c *classes) isa(args []heap.Word) lib.Answer {
	if c.w.Heap().Kind(args[0]) != heap.KindVector {
		return c.builtin("TYPEP", args...)
	}
	truth, _ := c.w.Symbol(lisp, "T")
	if c.below(c.name(c.at(args[0], 0)), c.name(args[1])) {
		return values(truth)
	}
	return values(heap.Nil)
}

// unhandled ends the run by a condition.
func (c *classes) unhandled(args []heap.Word) lib.Answer {
	fault, _ := c.w.Symbol(lisp, "%FAULT")
	c.w.SetFunction(fault, heap.Unbound)
	return lib.Answer{Kind: lib.AnswerFault, Fault: lib.Fault{Type: c.name(c.at(args[0], 0)), Data: c.list(c.at(args[0], 1))}}
}

// newConditions returns a session with the prelude of conditions.
func newConditions(t *testing.T) *session {
	t.Helper()
	s := newSession(t)
	c := &classes{w: s.w, supers: map[string][]string{}}
	for name, f := range map[string]func(args []heap.Word) lib.Answer{
		"%DEFCLASS": func(args []heap.Word) lib.Answer {
			var supers []string
			for _, super := range c.list(args[1]) {
				supers = append(supers, c.name(super))
			}
			c.supers[c.name(args[0])] = supers
			return values(args[0])
		},
		"MAKE-INSTANCE": func(args []heap.Word) lib.Answer { return c.builtin("VECTOR", args[0], heap.Nil) },
		"SLOT-VALUE":    func(args []heap.Word) lib.Answer { return values(c.at(args[0], 1)) },
		"%SET-SLOT-VALUE": func(args []heap.Word) lib.Answer {
			index, _ := heap.Fix(1)
			return c.builtin("%ASET", args[0], index, args[2])
		},
		"%ISA": c.isa, "%UNHANDLED": c.unhandled,
	} {
		fails(t, name, s.w.Register(name, 0, -1, f), api.OK)
	}
	l, at, e := reader.All(reader.Standard(lisp), condition.Prelude())
	if e != api.OK {
		t.Fatalf("the prelude: %v at %d", e, at)
	}
	for _, r := range l {
		name := r.Form.Kids[1]
		if name.Kind == api.FormCons { // (SET 'name NIL)
			name = name.Kids[1]
		}
		got := s.form(r.Form)
		if want := "= " + text(name); got != want && got != "= nil" {
			t.Fatalf("%s: %s; want %s", text(r.Form), got, want)
		}
	}
	return s
}

// P25.3: handlers are called from the newest cluster to the oldest one, and each one sees those behind its cluster.
func TestHandlers(t *testing.T) {
	for _, c := range [][2]string{
		{"(handler-case (car 1) (type-error (e) (condition-data e)))", "= (1 list)"},
		{"(handler-case (car 1) (type-error () 'first) (error () 'second)) (handler-case (car 1) (error () 'first) (type-error () 'second)) (handler-case (car 1) (division-by-zero () 'no) (error () 'yes))", "= first, = first, = yes"},
		{"(handler-case (list 1 2) (error () 'no)) (multiple-value-list (handler-case (values 1 2) (error () 3))) (multiple-value-list (handler-case (car 1) (error () (values 1 2))))", "= (1 2), = (1 2), = (1 2)"},
		{"(handler-case (/ 1 0) (arithmetic-error (e) (condition-data e))) (handler-case (error 'simple-error 1 2) (simple-error (e) (condition-data e))) (handler-case (f) (undefined-function (e) (condition-data e)))", "= nil, = (1 2), = (f)"},
		{"(list (signal 'simple-error 1) (handler-bind ((error (lambda (c) (princ (condition-data c))))) (signal 'simple-error 1 2)))", "= (nil nil)"},
		{"(car 1) (error 'simple-error 1 'a) (handler-case (car 1) (warning () 5))", "! TYPE-ERROR 1 list, ! SIMPLE-ERROR 1 a, ! TYPE-ERROR 1 list"},
		{"(define-condition mine () ()) (define-condition yours (mine error) ()) (handler-case (error 'yours 7) (mine (c) (list 'mine (condition-data c)))) (error 'mine 1) (handler-case (signal 'mine) (error () 'error) (condition () 'condition))", "= mine, = yours, = (mine (7)), ! MINE 1, = condition"},
		// a condition may be handed on
		{"(handler-case (handler-case (car 1) (type-error (e) (error e))) (error (e) (condition-data e)))", "= (1 list)"},
		// the order of clusters, and of handlers in one of them
		{"(let ((l nil)) (flet ((note (x) (lambda (c) (push x l)))) (handler-bind ((error (note 1)) (type-error (note 2))) (handler-bind ((division-by-zero (note 3)) (error (note 4)) (condition (note 5))) (signal 'type-error)))) (reverse l))", "= (4 5 1 2)"},
		// while a handler runs, those of its cluster and of newer ones are not there
		{"(let ((l nil)) (handler-bind ((error (lambda (c) (push 'outer l)))) (handler-bind ((error (lambda (c) (push 'inner l) (when (< (length l) 5) (signal 'simple-error))))) (handler-bind ((error (lambda (c) (push 'inmost l)))) (signal 'simple-error)))) (reverse l))", "= (inmost inner outer outer)"},
		{"(handler-case (handler-bind ((error (lambda (c) (error 'control-error)))) (car 1)) (control-error () 'of-the-handler))", "= of-the-handler"},
		{"(handler-case (handler-bind ((error (lambda (c) 'declines))) (car 1)) (type-error () 'left))", "= left"},
		// cleanup forms on the way
		{"(let ((l nil)) (handler-case (unwind-protect (unwind-protect (car 1) (push 'inner l)) (push 'outer l)) (error () (push 'clause l))) (reverse l))", "= (inner outer clause)"},
		{"(let ((l nil)) (handler-bind ((error (lambda (c) (push 'handler l)))) (ignore-errors (unwind-protect (car 1) (push 'cleanup l)))) (reverse l))", "= (cleanup)"},
		{"(let ((l nil)) (handler-case (handler-bind ((error (lambda (c) (push 'handler l)))) (unwind-protect (car 1) (push 'cleanup l))) (error () (push 'clause l))) (reverse l))", "= (handler cleanup clause)"},
		{"(multiple-value-list (ignore-errors 1 2)) (let ((l (multiple-value-list (ignore-errors (car 1) 2)))) (list (car l) (condition-data (nth 1 l)))) (ignore-errors)", "= (2), = (nil (1 list)), = nil"},
		{"(assert (= 1 1)) (assert (= 1 2)) (check-type 5 integer) (handler-case (check-type 5 string) (type-error () 'wrong)) (handler-case (assert nil) (simple-error () 'failed))", "= nil, ! SIMPLE-ERROR, = nil, = wrong, = failed"},
		{"(let ((x 0)) (handler-case (progn (setq x 1) (car 1) (setq x 2)) (error () x)))", "= 1"},
		{"(handler-case (handler-case (car 1) (error () (/ 1 0))) (division-by-zero () 'second))", "= second"},
	} {
		s := newConditions(t)
		if got := s.run(c[0]); got != c[1] {
			t.Errorf("%s: %s; want %s", c[0], got, c[1])
		}
		if got := s.run("(list %handlers% %restarts%)"); got != "= (nil nil)" {
			t.Errorf("behind %s there are %s", c[0], got)
		}
	}
}

// P25.4: restarts.
func TestRestarts(t *testing.T) {
	for _, c := range [][2]string{
		{"(restart-case (invoke-restart 'a 1 2) (a (x y) (list x y)))", "= (1 2)"}, {"(multiple-value-list (restart-case (values 1 2) (a () 3)))", "= (1 2)"}, {"(multiple-value-list (restart-case (invoke-restart 'a) (b () 1) (a () (values 2 3))))", "= (2 3)"},
		{"(restart-case (invoke-restart 'a 1) (a (x &optional (y 7) &rest z) (list x y z)))", "= (1 7 nil)"}, {"(restart-case (invoke-restart 'a) (a (x) x))", "! PROGRAM-ERROR %::closure"},
		{"(restart-case (restart-case (invoke-restart 'a) (a () 'newest)) (a () 'oldest))", "= newest"}, {"(restart-case (restart-case (invoke-restart 'b) (a () 'newest)) (a () 'a) (b () 'b))", "= b"}, {"(restart-case (invoke-restart 'a) (a () 'first) (a () 'second))", "= first"},
		{"(invoke-restart 'none)", "! CONTROL-ERROR none"}, {"(handler-case (invoke-restart 'none) (control-error (c) (condition-data c)))", "= (none)"},
		{"(restart-bind ((a (lambda (x) (* x 2)))) (+ 1 (invoke-restart 'a 5)))", "= 11"}, {"(restart-bind ((a #'car) (b #'cdr)) (list (invoke-restart 'b '(1 2)) (invoke-restart (find-restart 'a) '(3)) (length (compute-restarts))))", "= ((2) 3 2)"}, {"(list (find-restart 'a) (compute-restarts))", "= (nil nil)"},
		{"(multiple-value-list (with-simple-restart (a \"text\") (invoke-restart 'a))) (with-simple-restart (a \"text\") 5)", "= (nil t), = 5"},
		{"(handler-bind ((error (lambda (c) (invoke-restart 'use-value 7)))) (+ 1 (restart-case (car 1) (use-value (x) x))))", "= 8"},
		{"(warn 'simple-warning 1) (let ((l nil)) (handler-bind ((warning (lambda (c) (push (condition-data c) l) (muffle-warning) (push 'not-here l)))) (list (warn 'simple-warning 1) l)))", "= nil, = (nil ((1)))"},
		{"(handler-bind ((error (lambda (c) (continue)))) (list (cerror 'simple-error 1) 2)) (cerror 'simple-error 1) (continue)", "= (nil 2), ! SIMPLE-ERROR 1, = nil"},
		{"(let ((l nil)) (restart-case (unwind-protect (invoke-restart 'a) (push 'cleanup l)) (a () (push 'clause l))) l)", "= (clause cleanup)"},
		{"(restart-case (handler-case (invoke-restart 'a) (error () 'error)) (a () (length (compute-restarts))))", "= 0"},
		{"(handler-case (restart-case (car 1) (a () 1)) (error () (list (find-restart 'a) %handlers%)))", "= (nil nil)"},
	} {
		s := newConditions(t)
		if got := s.run(c[0]); got != c[1] {
			t.Errorf("%s: %s; want %s", c[0], got, c[1])
		}
		if got := s.run("(list %handlers% %restarts%)"); got != "= (nil nil)" {
			t.Errorf("behind %s there are %s", c[0], got)
		}
	}
}

// P25.3, P25.4: however handlers are nested, the one that leaves is the newest one that is left to.
func TestNestedCases(t *testing.T) {
	s := newConditions(t)
	types := []string{"division-by-zero", "arithmetic-error", "error", "type-error", "warning"}
	fits := map[string]bool{"division-by-zero": true, "arithmetic-error": true, "error": true}
	for n := range 125 {
		text, want := "(/ 1 0)", "! DIVISION-BY-ZERO"
		for i, k := range []int{n % 5, n / 5 % 5, n / 25} {
			text = fmt.Sprintf("(unwind-protect (handler-case %s (%s () %d)) (princ %d))", text, types[k], i, i)
			if fits[types[k]] && want[0] == '!' {
				want = fmt.Sprint("= ", i)
			}
		}
		if n%20 == 0 {
			s = newConditions(t)
		}
		before := len(s.w.Output())
		if got := s.run(text); got != want {
			t.Errorf("%s: %s; want %s", text, got, want)
		}
		if printed := s.w.Output()[before:]; printed != "012" {
			t.Errorf("%s prints %s", text, printed)
		}
		if want[0] == '!' { // %UNHANDLED took %FAULT away
			s = newConditions(t)
		}
	}
}
