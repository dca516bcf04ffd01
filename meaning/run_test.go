package meaning_test

import (
	"testing"

	"commonform/api"
	"commonform/core"
	"commonform/meaning"
)

// P21.1: what core trees mean, form by form.
func TestForms(t *testing.T) {
	for _, c := range []struct{ text, want string }{
		{"1", "= 1"},
		{"(quote (a . b))", "= (a . b)"},
		{"(values)", "="},
		{"(values 1 2)", "= 1 2"},
		{"(progn)", "= nil"},
		{"(progn (values 1 2))", "= 1 2"},
		{"(progn 1 (values 2 3))", "= 2 3"},
		{"(list (values 1 2) (values))", "= (1 nil)"},
		{"(if (values) 1 2)", "= 2"},
		{"(if (values nil 1) 1)", "= nil"},
		{"(if 0 (values 1 2))", "= 1 2"},
		{"(let ((x 1) (y (values 2 3))) (list x y))", "= (1 2)"},
		{"(let ((x 1)) (let ((x 2) (y x)) (list x y)))", "= (2 1)"},
		{"(let ((x 1)) (setq x 2) x)", "= 2"},
		{"(let ((x 1)) (setq x (values 3 4)))", "= 3"},
		{"(let ((x 1)) (let ((f (function (lambda () x)))) (setq x 2) (funcall f)))", "= 2"},
		{"(let ((f (let ((n 0)) (function (lambda () (setq n (+ n 1))))))) (list (funcall f) (funcall f)))", "= (1 2)"},
		{"(flet ((f (x) (* x x))) (f (f 3)))", "= 81"},
		{"(labels ((even (n) (if (= n 0) t (odd (- n 1)))) (odd (n) (if (= n 0) nil (even (- n 1))))) (list (even 10) (even 7)))", "= (t nil)"},
		{"(nothing)", "! UNDEFINED-FUNCTION nothing"},
		{"(function nothing)", "! UNDEFINED-FUNCTION nothing"},
		{"(car 1)", "! TYPE-ERROR 1 list"},
		{"nothing", "! UNBOUND-VARIABLE nothing"},
		{"(progn (setq glob 5) glob)", "= 5"},
		{"(block a 1)", "= 1"},
		{"(block a (return-from a (values 1 2)) 3)", "= 1 2"},
		{"(block a (list (return-from a 1) (car 2)))", "= 1"},
		{"(block a (flet ((f () (return-from a 5))) (f) 6))", "= 5"},
		{"(funcall (block a (function (lambda () (return-from a 5)))))", "! CONTROL-ERROR"},
		// exits of closures lead to the run of a block or tagbody in which these were made
		{"(labels ((f (g) (block b (if g (progn (funcall g) 1) (progn (f (function (lambda () (return-from b 7)))) 2))))) (f nil))", "= 7"},
		{"(labels ((f (g) (block b (if g (progn (return-from b 1) 3) (list (f (function (lambda () (return-from b 7)))) 2))))) (f nil))", "= (1 2)"},
		{"(labels ((f (g) (let ((l nil)) (tagbody (if g (funcall g) (f (function (lambda () (go a))))) (setq l 1) a (princ (list g l))) l))) (f nil))", "= nil"},
		{"(labels ((f (n) (tagbody (if (< n 3) (f (+ n 1)) (go a)) (princ n) a))) (f 0))", "= nil"},
		{"(tagbody a)", "= nil"},
		{"(let ((n 0)) (tagbody again (setq n (+ n 1)) (if (< n 5) (go again))) n)", "= 5"},
		{"(let ((l nil)) (tagbody (go b) a (setq l (cons 1 l)) (go c) b (setq l (cons 2 l)) (go a) c) l)", "= (1 2)"},
		{"(let ((n 0)) (tagbody again (setq n (+ n 1)) (funcall (function (lambda () (if (< n 5) (go again)))))) n)", "= 5"},
		{"(let ((f nil)) (tagbody a (setq f (function (lambda () (go a))))) (funcall f))", "! CONTROL-ERROR"},
		{"(catch 'x (+ 1 (throw 'x (values 5 6))))", "= 5 6"},
		{"(catch 'x 1)", "= 1"},
		{"(catch 100000000000000000000 (throw 100000000000000000000 1))", "= 1"},
		{"(catch \"a\" (throw \"a\" 1))", "! CONTROL-ERROR \"a\""},
		{"(catch 1.5 (throw 1.5 2))", "= 2"},
		{"(catch #c(1 2) (throw #c(1 2) 2))", "= 2"},
		{"(catch #c(1 2) (throw #c(1 3) 2))", "! CONTROL-ERROR #C(1 3)"},
		{"(catch 1 (catch 2 (throw 1 3)) 4)", "= 3"},
		{"(catch 1 (catch 1 (throw 1 3)) 4)", "= 4"},
		{"(unwind-protect (values 1 2) 3)", "= 1 2"},
		{"(let ((l nil)) (block a (unwind-protect (return-from a 1) (setq l (cons 2 l)))) l)", "= (2)"},
		{"(block a (unwind-protect (return-from a 1) (return-from a 2)))", "= 2"},
		{"(block a (block b (unwind-protect (return-from a 1) (return-from b 2))) 3)", "= 3"},
		{"(catch 'x (unwind-protect (throw 'x 1) (throw 'x 2)))", "= 2"},
		{"(progn (set 'c 0) (catch 'x (unwind-protect (unwind-protect (throw 'x 1) (set 'c (+ c 1))) (set 'c (* 10 c)))) c)", "= 10"},
		{"(multiple-value-call (function list) 1 (values 2 3) (values) 4)", "= (1 2 3 4)"},
		{"(multiple-value-call 'list (values 2 3))", "= (2 3)"},
		{"(multiple-value-prog1 (values 1 2) 3 4)", "= 1 2"},
		{"(multiple-value-prog1 (values))", "="},
		{"(let ((x 1)) (declare (special x)) (setq x (+ x 1)) (symbol-value 'x))", "= 2"},
		{"(progn (set 'x 1) (list (let ((x 2)) (declare (special x)) (symbol-value 'x)) x))", "= (2 1)"},
		{"(progn (set 'x 1) (block a (let ((x 2)) (declare (special x)) (return-from a 5))) x)", "= 1"},
		{"(progv '(x y) '(1) (list x (boundp 'y)))", "= (1 nil)"},
		{"(progv '(x) '(1 2) x)", "= 1"},
		{"(progn (progv '(x x) '(1 2) x) (boundp 'x))", "= nil"},
		{"(progv 5 6 7)", "! TYPE-ERROR 5 list"},
		{"(progv '(x) 6 7)", "! TYPE-ERROR 6 list"},
		{"(progv '(x . y) nil 7)", "! TYPE-ERROR (x . y) list"},
		{"(progv '(x 5 nil) 6 7)", "! TYPE-ERROR 6 list"},
		{"(progv '(x 5 nil) nil 7)", "! TYPE-ERROR 5 symbol"},
		{"(progv '(x nil 7) nil 7)", "! TYPE-ERROR 7 symbol"},
		{"(progv '(x nil) nil 7)", "! PROGRAM-ERROR nil"},
		{"(setq glob 1 glob2 2)", "= 2"},
	} {
		if got := ran(t, newWorld(t), c.text); got != c.want {
			t.Errorf("%s %s; want %s", c.text, got, c.want)
		}
	}
}

// P21.1: what the numbers of a tree are does not matter, also where a parameter that tells of another one has the least one.
func TestNumbers(t *testing.T) {
	for _, c := range []struct{ tree, want string }{
		{"(call (lambda 0 {2 1 0 -} (const 2::5) (callglobal 1:COMMON-LISP:LIST (var 0) (var 1))))", "= (nil 5)"},
		{"(call (lambda 0 {2 1 0 -} (const 2::5) (callglobal 1:COMMON-LISP:LIST (var 0) (var 1))) (const 2::6))", "= (t 6)"},
		{"(let [9999] (const 2::1) (block 9999 (tagbody [9999] (go 9999) (return 9999 (var 9999)))))", "= 1"},
		{"(let [1] (const 2::1) (block 1 (tagbody [1] (progn) (call (lambda 0 (return 1 (var 1)))))))", "= 1"},
		{"(block 1 (tagbody [1 2] (call (lambda 0 (go 2))) (return 1 (const 2::1)) (return 1 (const 2::2))))", "= 2"},
	} {
		tree, e := core.Parse(c.tree)
		fails(t, c.tree, e, api.OK)
		w := newWorld(t)
		end, _ := meaning.Run(w, tree, 100)
		equal(t, c.tree, ending(w, end), c.want)
	}
}

// P21.1: cells are made for variables; blocks and tagbodies that no closure leaves take no words.
func TestWords(t *testing.T) {
	for _, c := range []struct {
		text string
		want int
	}{
		{"(let ((n 0)) (tagbody a (setq n (block b (return-from b (+ n 1)))) (if (< n 100) (go a))))", 8},
		{"(flet ((f () (tagbody (go a) a) (return-from f 1))) (f) (f) (f))", 8 + 3},
		{"(flet ((f () (tagbody (go a) a) (return-from f 1))) (f))", 8 + 3},
		{"(block a (funcall (function (lambda () (return-from a 1)))))", 8 + 3},
		{"(tagbody (funcall (function (lambda () (go a)))) a)", 8 + 3},
		{"(progn (funcall 'list) 1)", 0},
	} {
		w := newWorld(t)
		tree := tree(t, c.text)
		used := w.Heap().Used()
		meaning.Run(w, tree, 10000)
		equal(t, "the words of "+c.text, w.Heap().Used()-used, c.want)
	}
}
