package core_test

import (
	"fmt"
	"strings"
	"testing"

	"commonform/api"
	"commonform/core"
)

// P19.1: the trees of forms. G is special everywhere.
func TestConvert(t *testing.T) {
	for _, c := range []struct{ form, want string }{
		// objects and variables
		{"5", "(const 5)"}, {"nil", "(const NIL)"}, {"t", "(const T)"}, {":k", "(const ~K)"}, {"#\\a", "(const 7::a)"}, {"1/2", "(const 3::1/2)"},
		{"\"a b\"", "(const 8::a~20b)"}, {"#(1 x)", "(const 11::(1 X))"}, {"#2a((1) (2))", "(const 12::2~201(1 2))"}, {"#*10", "(const 9::10)"},
		{"'x", "(const X)"}, {"'(a . b)", "(const 10::(A B))"}, {"x", "(special X)"}, {"g", "(special G)"},
		// simple special forms
		{"(if x 1)", "(if (special X) (const 1) (const NIL))"}, {"(if 1 2 3)", "(if (const 1) (const 2) (const 3))"},
		{"(progn)", "(progn)"}, {"(progn 1)", "(const 1)"}, {"(progn 1 2)", "(progn (const 1) (const 2))"},
		{"(setq)", "(const NIL)"}, {"(setq x 1)", "(setspecial X (const 1))"}, {"(let ((x 1)) (setq x 2))", "(let [0] (const 1) (set 0 (const 2)))"},
		{"(let ((x 1)) (setq x 2 y 3))", "(let [0] (const 1) (progn (set 0 (const 2)) (setspecial Y (const 3))))"},
		{"(the (integer 5) x)", "(special X)"}, {"(load-time-value 1)", "(const 1)"}, {"(load-time-value 1 t)", "(const 1)"},
		{"(catch 1)", "(catch (const 1) (progn))"}, {"(catch 1 2 3)", "(catch (const 1) (progn (const 2) (const 3)))"}, {"(throw 1 2)", "(throw (const 1) (const 2))"},
		{"(unwind-protect 1)", "(protect (const 1) (progn))"}, {"(unwind-protect 1 2)", "(protect (const 1) (const 2))"},
		{"(multiple-value-call 1)", "(valuescall (const 1))"}, {"(multiple-value-call #'car 1 2)", "(valuescall (function CAR) (const 1) (const 2))"},
		{"(multiple-value-prog1 1)", "(valuesfirst (const 1))"}, {"(multiple-value-prog1 1 2 3)", "(valuesfirst (const 1) (const 2) (const 3))"},
		{"(progv 1 2)", "(progv (const 1) (const 2) (progn))"}, {"(progv 1 2 3)", "(progv (const 1) (const 2) (const 3))"},
		// calls
		{"(car)", "(callglobal CAR)"}, {"(f 1 x)", "(callglobal F (const 1) (special X))"}, {"((lambda (x) x) 1)", "(call (lambda 0 {1 0 -1 -} (var 0)) (const 1))"},
		{"(lambda (x))", "(callglobal LAMBDA (callglobal X))"}, {"(declare (x))", "(callglobal DECLARE (callglobal X))"}, {"(special x)", "(callglobal SPECIAL (special X))"},
		{"#'f", "(function F)"}, {"#'if", "(function IF)"}, {"#'(lambda ())", "(lambda 0 (progn))"},
		// blocks and tags
		{"(block a)", "(block 0 (progn))"}, {"(block nil 1)", "(block 0 (const 1))"}, {"(block a (return-from a))", "(block 0 (return 0 (const NIL)))"},
		{"(block a (block a (return-from a 1)) (return-from a 2))", "(block 0 (progn (block 1 (return 1 (const 1))) (return 0 (const 2))))"},
		{"(block a (block b (return-from a 1)))", "(block 0 (block 1 (return 0 (const 1))))"}, {"(block a #'(lambda () (return-from a 1)))", "(block 0 (lambda 0 (return 0 (const 1))))"},
		{"(tagbody)", "(tagbody [] (progn))"}, {"(tagbody a (go a))", "(tagbody [0] (progn) (go 0))"}, {"(tagbody 1 2 a 3)", "(tagbody [0 1 2 3] (progn) (progn) (progn) (progn) (progn))"},
		{"(tagbody (x) (y) a nil (z) |1| 1 (go |1|) (go 1))", "(tagbody [0 1 2 3] (progn (callglobal X) (callglobal Y)) (progn) (callglobal Z) (progn) (progn (go 2) (go 3)))"},
		{"(tagbody a (tagbody a (go a)) (go a))", "(tagbody [0] (progn) (progn (tagbody [1] (progn) (go 1)) (go 0)))"},
		{"(tagbody (tagbody b (go a)) a)", "(tagbody [0] (tagbody [1] (progn) (go 0)) (progn))"},
		// bindings
		{"(let ())", "(progn)"}, {"(let () 1)", "(const 1)"}, {"(let (x (y) (z 1)) x)", "(let [0 1 2] (const NIL) (const NIL) (const 1) (var 0))"},
		{"(let ((x 1)) (let ((x x)) x))", "(let [0] (const 1) (let [1] (var 0) (var 1)))"},
		{"(let ((x (let ((y 1)) y))) x)", "(let [1] (let [0] (const 1) (var 0)) (var 1))"},
		{"(let ((g 1)) g)", "(bind [G] (const 1) (special G))"}, {"(let ((g 1) (x 2)) (list g x))", "(let [0 1] (const 1) (const 2) (bind [G] (var 0) (callglobal LIST (special G) (var 1))))"},
		{"(let ((x 1)) (declare (special x)) x)", "(bind [X] (const 1) (special X))"}, {"(let ((x 1) (y 2)) (declare (special x)) (declare (ignore y) (special y)) y)", "(bind [X Y] (const 1) (const 2) (special Y))"},
		{"(let ((x 1) (g 2) (y 3)) (declare (special y)) x)", "(let [0 1 2] (const 1) (const 2) (const 3) (bind [G Y] (var 1) (var 2) (var 0)))"},
		{"(let ((x 1)) (list x (let ((y x)) (declare (special x)) (list x y)) x))", "(let [0] (const 1) (callglobal LIST (var 0) (let [1] (var 0) (callglobal LIST (special X) (var 1))) (var 0)))"},
		{"(let ((x 1)) (locally (declare (special x)) x (let ((x 2)) x)))", "(let [0] (const 1) (progn (special X) (let [1] (const 2) (var 1))))"},
		{"(let ((x 1)) (let ((x 2)) (declare (special x)) #'(lambda () x)))", "(let [0] (const 1) (bind [X] (const 2) (lambda 0 (special X))))"},
		{"(let ((special 1)) (declare (special x)) special)", "(let [0] (const 1) (var 0))"},
		{"(locally)", "(progn)"}, {"(locally (declare) 1)", "(const 1)"}, {"(locally 1 (declare))", "(progn (const 1) (callglobal DECLARE))"},
		{"(let* ())", "(progn)"}, {"(let* ((x 1) (y x)) y)", "(let [0] (const 1) (let [1] (var 0) (var 1)))"}, {"(let* ((x 1) (x x)) x)", "(let [0] (const 1) (let [1] (var 0) (var 1)))"},
		{"(let* ((x 1) (g x) (y g)) y)", "(let [0] (const 1) (bind [G] (var 0) (let [1] (special G) (var 1))))"},
		{"(let* ((x y) (y x)) (declare (special y z)) (list y z))", "(let [0] (special Y) (bind [Y] (var 0) (callglobal LIST (special Y) (special Z))))"},
		{"(let ((z 1)) (let* ((x z)) (declare (special z)) z))", "(let [0] (const 1) (let [1] (var 0) (special Z)))"},
		{"(let* ((x 1) (x 2)) (declare (special x)) x)", "(bind [X] (const 1) (bind [X] (const 2) (special X)))"},
		// lambda lists
		{"#'(lambda (x &optional (y x z) w &rest r) 1)", "(lambda 0 {1 0 -1 -} {2 1 2 -} {2 3 -1 -} {3 4 -1 -} (var 0) (const NIL) (const 1))"},
		{"#'(lambda (&key x ((:k y) 1 z)) (list x y z))", "(lambda 0 {4 0 -1 ~X} {4 1 2 ~K} (const NIL) (const 1) (callglobal LIST (var 0) (var 1) (var 2)))"},
		{"#'(lambda (&key &allow-other-keys))", "(lambda 1 (progn))"}, {"#'(lambda (&key))", "(lambda 0 (progn))"}, {"#'(lambda (&key x &allow-other-keys))", "(lambda 1 {4 0 -1 ~X} (const NIL) (progn))"},
		{"#'(lambda (&optional (x (let ((a 1)) a) z) (y x)) y)", "(lambda 0 {2 0 1 -} {2 2 -1 -} (let [3] (const 1) (var 3)) (var 0) (var 2))"},
		{"#'(lambda (x &aux (y x) (g y) z) (list y g z))", "(lambda 0 {1 0 -1 -} (let [1] (var 0) (bind [G] (var 1) (let [2] (const NIL) (callglobal LIST (var 1) (special G) (var 2))))))"},
		{"#'(lambda (x g &optional (y g)) (list x g y))", "(lambda 0 {1 0 -1 -} {1 1 -1 -} {2 2 -1 -} (var 1) (bind [G] (var 1) (callglobal LIST (var 0) (special G) (var 2))))"},
		{"#'(lambda (x &optional (y 1 z) &aux (w y)) (declare (special x y z w v)) v)", "(lambda 0 {1 0 -1 -} {2 1 2 -} (const 1) (bind [X Y Z] (var 0) (var 1) (var 2) (bind [W] (special Y) (special V))))"},
		{"(let ((v 1)) #'(lambda (&optional (x v) &aux (y v)) (declare (special v)) v))", "(let [0] (const 1) (lambda 0 {2 1 -1 -} (var 0) (let [2] (var 0) (special V))))"},
		{"#'(lambda (x) (declare (ignore x)) 1 2)", "(lambda 0 {1 0 -1 -} (progn (const 1) (const 2)))"},
		{"#'(lambda () \"doc\" (declare))", "(lambda 0 (progn (const 8::doc) (callglobal DECLARE)))"},
		// local functions
		{"(flet ((f (x) x)) (f 2))", "(let [1] (lambda 0 {1 0 -1 -} (block 0 (var 0))) (call (var 1) (const 2)))"}, {"(flet () 1)", "(let [] (const 1))"}, {"(labels () 1)", "(labels [] (const 1))"},
		{"(flet ((f () (f)) (g ())) #'f #'g #'h)", "(let [0 1] (lambda 0 (block 0 (callglobal F))) (lambda 0 (block 1 (progn))) (progn (var 0) (var 1) (function H)))"},
		{"(labels ((f () (g)) (g (x) (f))) (f))", "(labels [0 1] (lambda 0 (block 0 (call (var 1)))) (lambda 0 {1 2 -1 -} (block 1 (call (var 0)))) (call (var 0)))"},
		{"(flet ((f (x) (return-from f x))) f)", "(let [1] (lambda 0 {1 0 -1 -} (block 0 (return 0 (var 0)))) (special F))"},
		{"(block f (flet ((f (&optional (x (return-from f 1)) &aux (y (return-from f 2))) (return-from f 3)))))", "(block 0 (let [2] (lambda 0 {2 0 -1 -} (return 0 (const 1)) (let [1] (return 0 (const 2)) (block 1 (return 1 (const 3))))) (progn)))"},
		{"(flet ((f (x) (declare (special x)) x)) (declare (special y)) (let ((y 1)) y))", "(let [1] (lambda 0 {1 0 -1 -} (bind [X] (var 0) (block 0 (special X)))) (let [2] (const 1) (var 2)))"},
		{"(flet ((f ())) (flet ((f ())) (f)) (f))", "(let [0] (lambda 0 (block 0 (progn))) (progn (let [1] (lambda 0 (block 1 (progn))) (call (var 1))) (call (var 0))))"},
		{"(let ((f 1)) (flet ((f ())) (f f)))", "(let [0] (const 1) (let [1] (lambda 0 (block 0 (progn))) (call (var 1) (var 0))))"},
		{"(flet ((if (x) x)) (if 1 2))", "(let [1] (lambda 0 {1 0 -1 -} (block 0 (var 0))) (if (const 1) (const 2) (const NIL)))"},
		{"(let ((#:x 1)) 2)", "(let [0] (const 1) (const 2))"}, {"(flet ((#:f ())) 2)", "(let [0] (lambda 0 (block 0 (progn))) (const 2))"}, {"(block #:b 1)", "(block 0 (const 1))"},
		{"(let ((#1=x 1)) 1)", ""},
	} {
		tree, e := core.Convert(form(t, c.form), forms(t, "g"))
		if c.want == "" {
			fails(t, c.form, e, api.ErrForm)
			continue
		}
		if e != api.OK || brief(shown(t, tree)) != c.want {
			t.Errorf("%s: %s, %v; want %s", c.form, brief(shown(t, tree)), e, c.want)
		}
		equal(t, "Free of "+c.form, core.Free(tree), []int{})
	}
}

// P19.1: forms that are no expanded ones, and which error is named first.
func TestConvertErrors(t *testing.T) {
	for _, group := range []struct {
		e     api.Errno
		forms []string
	}{
		{api.ErrForm, []string{
			"(quote)", "(quote 1 2)", "(if 1)", "(if)", "(if 1 2 3 4)", "(setq x)", "(setq x 1 y)", "(setq 5 1)", "(setq nil 1)", "(setq :k 1)", "(setq t 1)", "(setq &rest 1)", "(setq (x) 1)", "(setq #:x 1)",
			"(the 1)", "(the 1 2 3)", "(load-time-value)", "(load-time-value 1 2 3)", "(catch)", "(throw 1)", "(throw 1 2 3)", "(unwind-protect)", "(multiple-value-call)", "(multiple-value-prog1)", "(progv 1)",
			"(function)", "(function f g)", "(function 5)", "(function nil)", "(function t)", "(function :f)", "(function #:f)", "(function (setf x))", "(function (lambda))", "(function (lambda 5))", "(function (lambda (5)))", "(function (lambda ((x))))", "(function (f (x) x))", "(function (lambda (x) . 5))",
			"(5)", "(nil)", "(t 1)", "(:k)", "(#:f)", "(\"f\")", "((f) 1)", "((lambda) 1)", "(f . 5)", "(f 1 . 5)", "(if 1 2 . 3)", "(progn . 5)", "#:x",
			"(block)", "(block 5)", "(block (a))", "(return-from)", "(return-from 5)", "(return-from a 1 2)", "(go)", "(go a b)", "(go (a))", "(go 1.5)",
			"(let)", "(let 5)", "(let x)", "(let (5))", "(let (nil))", "(let (t))", "(let (:x))", "(let ((x 1 2)))", "(let ((x . 1)))", "(let (()))", "(let ((5 1)))", "(let ((&key 1)))", "(let (x . y))", "(let*)", "(let* (5))", "(let (((x) 1)))",
			"(let ((#:x 1)) (declare (special #:x)))", "(let* ((#:x 1)) (declare (special #:x)))", "(function (lambda (#:x) (declare (special #:x))))", "(function (lambda (&aux #:x) (declare (special #:x))))", "(locally (declare (special #:x)) #:x)",
			"(flet)", "(flet 5)", "(flet (f))", "(flet ((f)))", "(flet ((5 ())))", "(flet ((nil ())))", "(flet ((t ())))", "(flet ((:f ())))", "(flet (((setf f) ())))", "(flet ((f 5)))", "(flet ((f (x . y))))", "(flet ((f ()) . 5))", "(labels)", "(labels ((f)))",
			"(list #1=(1) #1#)", "#1=x", "'#1=(1)",
		}},
		{api.ErrTwice, []string{"(let (x x))", "(let ((x 1) (y 2) (x 3)))", "(let (x x 5))", "(tagbody a a)", "(tagbody 1 1)", "(tagbody a 5 nil nil)", "(function (lambda (x x)))", "(flet ((f (x &key x))))", "(function (lambda (&key ((:k a)) ((:k b)))))"}},
		{core.ErrScope, []string{"(return-from a)", "(return-from a (if))", "(block b (return-from a))", "(block a (return-from #:a))", "(go a)", "(go 5)", "(tagbody a (go |A|) (go b))", "(tagbody 1 (go |1|))", "(tagbody (tagbody a) (go a))", "(progn (block a) (return-from a))", "(flet ((f ())) (return-from f))", "(block a (tagbody (go a)))", "(let ((x (return-from b))) (return-from a))"}},
		{core.ErrDeclare, []string{"(locally (declare . 5))", "(locally (declare 5))", "(locally (declare x))", "(locally (declare ()))", "(locally (declare (5)))", "(locally (declare (special . x)))", "(locally (declare ((special x))))", "(let () (declare (special x) 5))", "(let* () (declare 5))", "(function (lambda () (declare 5)))", "(flet () (declare 5))", "(flet ((f () (declare 5))))", "(labels () (declare 5))", "(locally (declare) (declare 5))"}},
		// the order: the shape ahead of the parts, bindings and lambda lists ahead of declarations
		{api.ErrForm, []string{"(let (5) (declare 5))", "(let ((x (return-from a)) 5))", "(let ((x (return-from a))) (declare (special #:y)) #:y (if) . 5)", "(if (return-from a))", "(f (if) (return-from a))", "(#:f (return-from a))", "(let ((#:x (return-from a))) (declare (special #:x)))", "(let* ((#:x (return-from a))) (declare (special #:x)))", "(function (lambda (&optional (#:x (return-from a))) (declare (special #:x))))", "(setq #:x (return-from a))", "(flet ((f (5))) (declare 5))", "(flet ((f () (return-from a)) (g)) 1)"}},
		{core.ErrDeclare, []string{"(let ((x (return-from a))) (declare 5) (if))", "(flet ((f () (return-from a)) (g () (declare 5))) (if))", "(flet ((f () (return-from a))) (declare 5))", "(function (lambda (&optional (x (if))) (declare 5)))"}},
		{core.ErrScope, []string{"(f (return-from a) (if))", "(let ((x (return-from a))) (if))", "(setq x (return-from a) #:y 1)", "(function (lambda (&optional (x (return-from a))) (if)))", "((lambda () (return-from a)) (if))", "(flet ((f () (return-from a))) (if))"}},
		{api.ErrTwice, []string{"(let (x x) (declare 5))", "(flet ((f (x x)) (g)) 1)"}},
	} {
		for _, text := range group.forms {
			tree, e := core.Convert(form(t, text), nil)
			equal(t, text, []any{e, tree}, []any{group.e, api.Core{}})
		}
	}
	_, e := core.Convert(api.Form{Kind: 99}, nil)
	fails(t, "no form", e, api.ErrForm)
	_, e = core.Convert(api.Form{Kind: api.FormRef, Text: "0"}, nil)
	fails(t, "a reference", e, 30)
	deep := "1"
	for range 99 {
		deep = "(f " + deep + ")"
	}
	_, e = core.Convert(form(t, deep), nil)
	fails(t, "a form of the greatest depth", e, api.OK)
	lets := form(t, "(let* ("+strings.Repeat("(x 1) ", 99)+") x)")
	_, e = core.Convert(lets, nil)
	fails(t, "the deepest tree", e, api.OK)
	_, e = core.Convert(form(t, "(let* ("+strings.Repeat("(x 1) ", 100)+") x)"), nil)
	fails(t, "a tree that is too deep", e, api.ErrSize)
	_, e = core.Convert(form(t, "(let* ("+strings.Repeat("(x 1) ", 100)+") (return-from a))"), nil)
	fails(t, "one with another error", e, core.ErrScope)
	_, e = core.Convert(form(t, "(progn "+strings.Repeat("1 ", 1990)+")"), nil)
	fails(t, "a large tree", e, api.OK)
	_, e = core.Convert(form(t, "(setq "+strings.Repeat("x 1 ", 990)+")"), nil)
	fails(t, "a large form", e, api.OK)
	_, e = core.Convert(form(t, "(let ("+many("v", 300)+") (let ("+many("w", 300)+")))"), nil)
	fails(t, "many variables", e, api.OK)
	_, e = core.Convert(form(t, "(flet ("+strings.Repeat("(f ()) ", 330)+"))"), nil)
	fails(t, "many functions", e, api.OK)
	// a tree may have more nodes than its form
	nested := strings.Repeat("(let* ("+strings.Repeat("v ", 90)+") 1) ", 11)
	c, e := core.Convert(form(t, "(progn "+nested+strings.Repeat("1 ", 8)+")"), nil)
	equal(t, "a tree with as many nodes as can be", []any{core.Size(c), e}, []any{2000, api.OK})
	_, e = core.Convert(form(t, "(progn "+nested+strings.Repeat("1 ", 9)+")"), nil)
	fails(t, "a tree with too many", e, api.ErrSize)
}

// many returns so many names.
func many(prefix string, n int) string {
	var l []string
	for i := range n {
		l = append(l, fmt.Sprint(prefix, i))
	}
	return strings.Join(l, " ")
}

// P19.1: symbols are special everywhere just where they are named, and what is no symbol is none.
func TestSpecials(t *testing.T) {
	equal(t, "none", shown(t, converted(t, "(let ((x 1)) x)")), "(let [0] (const 2::1) (var 0))")
	equal(t, "another one", shown(t, converted(t, "(let ((x 1)) x)", "y", "car", "#:x", ":x")), "(let [0] (const 2::1) (var 0))")
	equal(t, "this one", shown(t, converted(t, "(let ((x 1)) x)", "y", "x")), "(bind [1:U:X] (const 2::1) (special 1:U:X))")
	c, e := core.Convert(form(t, "(let ((x 1)) x)"), []api.Form{{Kind: api.FormString, Home: "U", Text: "X"}})
	equal(t, "a string", []any{shown(t, c), e}, []any{"(let [0] (const 2::1) (var 0))", api.OK})
	_, e = core.Convert(form(t, "(let ((#:x 1)) 2)"), forms(t, "#:x"))
	fails(t, "one without a home", e, api.ErrForm)
}

// P19.2: trees of forms that differ only in the names of variables, functions, blocks and tags are equal.
func TestNames(t *testing.T) {
	for _, c := range [][2]string{
		{"(let ((x 1) (y 2)) (list x y))", "(let ((a 1) (b 2)) (list a b))"},
		{"(flet ((f (x &optional (y x z)) (return-from f x))) (f #'f))", "(flet ((g (a &optional (b a c)) (return-from g a))) (g #'g))"},
		{"(labels ((f () (g)) (g () (f))) (f))", "(labels ((g () (f)) (f () (g))) (g))"},
		{"(block a (tagbody b (go b) (return-from a 1)))", "(block b (tagbody a (go a) (return-from b 1)))"},
		{"(let* ((x 1) (y x)) y)", "(let* ((x 1) (x x)) x)"},
		{"#'(lambda (&key ((:k x)) &aux (y x)) y)", "#'(lambda (&key ((:k a)) &aux (a2 a)) a2)"},
	} {
		a, b := converted(t, c[0]), converted(t, c[1])
		equal(t, c[0], a, b)
	}
}

// P19.1: a tree shares no memory with its form, nor with the special symbols.
func TestMemory(t *testing.T) {
	f, specials := form(t, "(let ((g '(1))) #'(lambda (&key ((:k x))) '#(1)))"), forms(t, "g")
	c, e := core.Convert(f, specials)
	fails(t, "Convert", e, api.OK)
	want := shown(t, c)
	var spoil func(f *api.Form)
	spoil = func(f *api.Form) {
		f.Text = "SPOILED"
		for i := range f.Kids {
			spoil(&f.Kids[i])
		}
	}
	spoil(&f)
	spoil(&specials[0])
	equal(t, "a tree whose form was changed", shown(t, c), want)
	again, e := core.Renamed(c, 0)
	fails(t, "Renamed", e, api.OK)
	for i := range again.Kids {
		again.Kids[i].Op = 99
	}
	again.Syms[0].Text = "SPOILED"
	equal(t, "a tree whose Renamed was changed", shown(t, c), want)
}
