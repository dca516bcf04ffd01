package macro_test

import (
	"testing"

	"commonform/api"
	"commonform/heap"
	"commonform/lib"
	"commonform/macro"
)

// P22.1 (with layer 21): what programs with the standard macros do.
func TestPrograms(t *testing.T) {
	for _, c := range [][2]string{
		{"(when t 1 2) (when nil 1 2) (when 1) (unless nil 1 2) (unless 5 1)", "= 2, = nil, = nil, = 2, = nil"},
		{"(and) (and 1) (and 1 2 3) (and 1 nil (car 1)) (or) (or nil 2) (or nil nil) (or 1 (car 1))", "= t, = 1, = 3, = nil, = nil, = 2, = nil, = 1"},
		{"(multiple-value-list (or nil (values 1 2))) (multiple-value-list (or (values 1 2) nil)) (multiple-value-list (and t (values 1 2))) (multiple-value-list (cond ((values 1 2))))", "= (1 2), = (1), = (1 2), = (1)"},
		{"(cond) (cond (nil 1)) (cond (nil 1) (2) (3)) (cond ((car '(nil)) 1) (t 2 3))", "= nil, = nil, = 2, = 3"},
		{"(case 3 ((1 2) 'a) (3 'b) (t 'c)) (case 9 ((1 2) 'a) (otherwise 'c)) (case nil (nil 1) ((nil) 2)) (case 't (t 1) (otherwise 2)) (case 1 (1))", "= b, = c, = 2, = 1, = nil"},
		{"(typecase 1 (string 'a) (integer 'b)) (typecase 'x (integer 1) (otherwise 2)) (typecase 1.5 (integer 1))", "= b, = 2, = nil"},
		{"(let ((x 1)) (list (prog1 x (setq x 2)) (prog2 (setq x 3) x (setq x 4)) x)) (multiple-value-list (prog1 (values 1 2)))", "= (1 3 4), = (1)"},
		{"(let ((a 1) (b 2)) (list (psetq a b b a) a b))", "= (nil 2 1)"},
		{"(do ((i 0 (+ i 1)) (l nil (cons i l))) ((= i 3) (list i l))) (do* ((i 0 (+ i 1)) (l nil (cons i l))) ((= i 3) l)) (do ((i 0 (+ i 1))) (nil) (when (= i 4) (return i)))", "= (3 (2 1 0)), = (3 2 1), = 4"},
		{"(prog (a (b 1)) (setq a b) x (when (< a 5) (setq a (+ a 1)) (go x)) (return (list a b))) (prog* ((a 1) (b a)) (return b)) (prog () 1)", "= (5 1), = 1, = nil"},
		{"(let ((s 0)) (list (dolist (x '(1 2 3)) (setq s (+ s x))) s)) (dolist (x '(1 2) x)) (dolist (x '(1 2 3) 'no) (when (= x 2) (return x))) (let ((l nil)) (dolist (x '(1 2 3) l) (when (= x 2) (go on)) (push x l) on))", "= (nil 6), = nil, = 2, = (3 1)"},
		{"(let ((l nil)) (dotimes (i 3 (list i l)) (push i l))) (dotimes (i 0 'none)) (dotimes (i 5) (when (= i 3) (return i)))", "= (3 (2 1 0)), = none, = 3"},
		{"(multiple-value-bind (a b c) (values 1 2) (list a b c)) (multiple-value-bind (a) (values 1 2) a) (multiple-value-bind () 1 2) (multiple-value-list (floor 7 2)) (nth-value 1 (floor 7 2))", "= (1 2 nil), = 1, = 2, = (3 1), = 1"},
		{"(let ((a 0) (b 0)) (list (multiple-value-setq (a b) (floor 7 2)) a b (multiple-value-setq () (values 5 6))))", "= (3 3 1 5)"},
		{"(defun sq (x) \"doc\" (* x x)) (sq 12) (defun f (x &optional (y (sq x))) (declare (ignore y)) (when (> x 2) (return-from f 'big)) y) (f 2) (f 3) (defun (setf part) (v l) (rplaca l v)) (let ((l (list 1 2))) (list (setf (part l) 5) l))", "= sq, = 144, = f, = 4, = big, = |(SETF PART)|, = (5 (5 2))"},
		{"(defvar v 1) (defvar v 2) v (defparameter v 3) v (defconstant k 5) (let ((v 9)) (f)) (defun f () v) (let ((v 9)) (f)) (f) (declaim (special w)) (let ((w 1)) (boundp 'w))", "= v, = v, = 1, = v, = 3, = k, ! UNDEFINED-FUNCTION f, = f, = 9, = 3, = nil, = t"},
		{"(defmacro swap (a b) `(psetq ,a ,b ,b ,a)) (let ((x 1) (y 2)) (swap x y) (list x y)) (defmacro my-or (&rest l) (when l (if (cdr l) `(let ((v ,(car l))) (if v v (my-or ,@(cdr l)))) (car l)))) (my-or nil nil 3) (my-or)", "= swap, = (2 1), = my-or, = 3, = nil"},
		{"(defmacro with-gensyms (names &body body) (list* 'let (let ((l nil)) (dolist (n names l) (push (list n '(gensym)) l))) body)) (defmacro twice (x) (with-gensyms (g) `(let ((,g ,x)) (list ,g ,g)))) (let ((n 0)) (list (twice (incf n)) n))", "= with-gensyms, = twice, = ((1 1) 1)"},
		{"(defmacro m (x) (list 'quote (list x 1))) (m a) (defmacro m (x) x) (m 5) (fboundp 'm)", "= m, = (a 1), = m, = 5, = nil"},
		{"(defmacro when (x) (list 'quote x)) (when (a b)) (unless nil 1)", "= when, = (a b), = 1"},
		{"(destructuring-bind (a (b &optional (c 7)) &key d) '(1 (2) :d 4) (list a b c d)) (destructuring-bind (a . b) '(1 2 3) (declare (special zz)) (list a b)) (destructuring-bind (a b) '(1) a)", "= (1 2 7 4), = (1 (2 3)), ! UNDEFINED-FUNCTION %bad-form"},
		{"(let ((y (list 1 2))) (symbol-macrolet ((x (car y))) (setq x 5) (incf x) (push 9 (cdr y)) (multiple-value-setq (x) 8) (psetq x (+ x 1)) (list x y)))", "= (9 (9 9 2))"},
		{"(set 'x 1) (let ((x 2)) (list (symbol-macrolet () (declare (special x)) x) (symbol-macrolet ((y x)) (declare (special x)) (declare (ignore z)) (setq y (+ y 1)) y) (symbol-value 'x) (symbol-macrolet () (locally (declare (special x)) x))))", "= 1, = (2 3 1 1)"},
		{"(macrolet ((add (x &optional (n 1)) `(+ ,x ,n))) (list (add 5) (add 5 2))) (flet ((add (x) (* x 10))) (macrolet ((twice (x) `(progn ,x (add ,x)))) (twice 3)))", "= (6 7), = 30"},
		{"(eval-when (:compile-toplevel) (princ 1)) (eval-when (:execute) 2) (funcall (lambda (x) (+ x 1)) 2)", "= nil, = 2, = 3"},
		{"(let ((n 0)) (tagbody (and) (or) (cond) again (incf n) (when (< n 3) (go again))) n)", "= 3"},
		{"(let ((l (list 1 2 3))) (let ((b 'x)) `(a ,b ,@l (c ,(car l)) . ,b)))", "= (a x 1 2 3 (c 1) . x)"},
		{"(block nil (let ((x 1)) (declare (special x)) (return (symbol-value 'x))))", "= 1"},
	} {
		if got := newSession(t).run(c[0]); got != c[1] {
			t.Errorf("%s:\n%s; want\n%s", c[0], got, c[1])
		}
	}
}

// P22.1: definitions of classes, generic functions and methods, with functions of the tests in the place of those of layer 28.
func TestDefinitionsOfObjects(t *testing.T) {
	s := newSession(t)
	var calls []string
	for _, name := range []string{"%DEFCLASS", "%DEFGENERIC", "%DEFMETHOD", "%GENERIC-P", "%NO-NEXT-METHOD"} {
		e := s.w.Register(name, 0, -1, func(args []heap.Word) lib.Answer {
			calls = append(calls, name+" "+shown(s.w, args))
			if name == "%DEFMETHOD" {
				method, _ := s.w.Symbol(user, "METHOD")
				s.w.SetFunction(method, args[3])
			}
			nothing, _ := s.w.Symbol(lisp, "NIL")
			return lib.Answer{Values: []heap.Word{nothing}}
		})
		fails(t, name, e, api.OK)
	}
	for _, c := range []struct {
		from, want string
		calls      []string
	}{
		{"(defclass c (a b) ((s :initarg :i :initform 5 :reader r) u))", "= c", []string{"%DEFCLASS c (a b) ((s :i %::closure nil) (u nil nil nil))", "%GENERIC-P r", "%DEFGENERIC r standard 1", "%DEFMETHOD r nil (c) %::closure"}},
		{"(defgeneric g (x y) (:method-combination +))", "= g", []string{"%DEFGENERIC g + 2"}},
		{"(defmethod g :before ((x c) (y (eql (+ 1 2)))) (list x y))", "= g", []string{"%GENERIC-P g", "%DEFGENERIC g standard 2", "%DEFMETHOD g (:before) (c (eql 3)) %::closure"}},
		{"(funcall #'method nil 1 2)", "= (1 2)", nil},
		{"(defmethod h (x &optional (y 7)) (list x y (next-method-p) (call-next-method) (when (= x 1) (call-next-method 5))))", "= h", []string{"%GENERIC-P h", "%DEFGENERIC h standard 1", "%DEFMETHOD h nil (t) %::closure"}},
		{"(funcall #'method #'list 1)", "= (1 7 t (1) (5))", nil},
		{"(funcall #'method nil 2 3)", "= (2 3 nil nil nil)", []string{"%NO-NEXT-METHOD"}},
		{"(defmethod early (x) (return-from early 'left))", "= early", []string{"%GENERIC-P early", "%DEFGENERIC early standard 1", "%DEFMETHOD early nil (t) %::closure"}},
		{"(funcall #'method nil 2)", "= left", nil},
	} {
		calls = nil
		if got := s.run(c.from); got != c.want {
			t.Errorf("%s: %s; want %s", c.from, got, c.want)
		}
		if !sameTexts(calls, c.calls) {
			t.Errorf("%s: %q; want %q", c.from, calls, c.calls)
		}
	}
}

func sameTexts(a, b []string) bool {
	if len(a) != len(b) {
		return false
	}
	for i := range a {
		if len(a[i]) < len(b[i]) || a[i][:len(b[i])] != b[i] {
			return false
		}
	}
	return true
}

// P22.1: a table belongs to who has it.
func TestTables(t *testing.T) {
	s := newSession(t)
	f := form(t, "(defmacro m (x) (list 'f x))")
	table, _, _, end := macro.Define(s.w, macro.New(), f, 0)
	if end.Kind != lib.EndValues {
		t.Fatal(ending(s.w, end))
	}
	longer, _, _, _ := macro.Define(s.w, table, form(t, "(defvar v)"), 0)
	f.Kids[1].Text, longer.Macros[0].Name.Text, longer.Macros[0].Lambda.Kids[0] = "N", "O", api.Core{}
	got, _, end := macro.All(s.w, table, form(t, "(m (n 1))"), 0)
	if end.Kind != lib.EndValues {
		t.Fatal(ending(s.w, end))
	}
	same(t, "a table whose copies were changed", got, form(t, "(f (n 1))"))
	source := form(t, "(when (f '(a)) (g))")
	want := text(source)
	for _, expand := range []func() api.Form{
		func() api.Form { f, _, _ := macro.All(s.w, table, source, 0); return f },
		func() api.Form { f, _, _, _ := macro.Once(table, source, 0); return f },
	} {
		scratch(expand())
		if text(source) != want {
			t.Errorf("the form is %s", text(source))
		}
	}
}

// scratch overwrites all parts of a form.
func scratch(f api.Form) {
	for i := range f.Kids {
		scratch(f.Kids[i])
		f.Kids[i] = api.Form{Kind: api.FormString, Text: "scratched"}
	}
}
