package macro_test

import (
	"slices"
	"strings"
	"testing"

	"commonform/api"
	"commonform/forms"
	"commonform/macro"
	"commonform/reader"
)

// onces are calls of standard macros, and what they become with fresh variables from 3 on.
func onces() [][2]string {
	accessor := "(defmethod a ((%3 c)) (slot-value %3 's)) (defmethod (setf a) (%3 (%4 c)) (%set-slot-value %4 's %3))"
	method := func(name, ensured, qualifiers, specs, list, body string) string {
		return "(progn (if (%generic-p '" + name + ") nil (defgeneric " + name + " " + ensured + ")) (%defmethod '" + name + " '" + qualifiers + " (list " + specs + ") #'(lambda (%3 &rest %4) " +
			"(flet ((call-next-method (&rest %5) (if %3 (apply %3 (if %5 %5 %4)) (%no-next-method))) (next-method-p nil (if %3 t nil))) (apply #'(lambda " + list + " " + body + ") %4)))) '" + name + ")"
	}
	return [][2]string{
		{"(lambda (x) y z)", "#'(lambda (x) y z)"}, {"(lambda 5)", "#'(lambda 5)"}, {"(lambda x . (y))", "#'(lambda x y)"},
		{"(when a b c)", "(if a (progn b c))"}, {"(when a)", "(if a (progn))"}, {"(unless a b c)", "(if a nil (progn b c))"}, {"(unless a)", "(if a nil (progn))"},
		{"(and)", "t"}, {"(and a)", "a"}, {"(and a b)", "(if a (and b))"}, {"(and a b c)", "(if a (and b c))"},
		{"(or)", "nil"}, {"(or a)", "a"}, {"(or a b)", "(let ((%3 a)) (if %3 %3 (or b)))"}, {"(or a b c)", "(let ((%3 a)) (if %3 %3 (or b c)))"},
		{"(cond)", "nil"}, {"(cond (a))", "(or a (cond))"}, {"(cond (a b c) (d))", "(if a (progn b c) (cond (d)))"}, {"(cond (a) (b c))", "(or a (cond (b c)))"},
		{"(case k)", "(let ((%3 k)) (cond))"}, {"(case k (a b) (nil c) ((d e) f g) ((h . i) j) (t))", "(let ((%3 k)) (cond ((eql %3 'a) b) ((or) c) ((or (eql %3 'd) (eql %3 'e)) f g) ((eql %3 '(h . i)) j) (t nil)))"},
		{"(case k (t a) (otherwise b))", "(let ((%3 k)) (cond ((eql %3 't) a) (t b)))"}, {"(case k (otherwise a) (t b))", "(let ((%3 k)) (cond ((eql %3 'otherwise) a) (t b)))"}, {"(case k ((t) a))", "(let ((%3 k)) (cond ((or (eql %3 't)) a)))"}, {"(case k (1))", "(let ((%3 k)) (cond ((eql %3 '1) nil)))"},
		{"(typecase k (integer a) (nil b) ((or a b) c) (t d) (otherwise e f))", "(let ((%3 k)) (cond ((typep %3 'integer) a) ((typep %3 'nil) b) ((typep %3 '(or a b)) c) ((typep %3 't) d) (t e f)))"}, {"(typecase k (t))", "(let ((%3 k)) (cond (t nil)))"},
		{"(prog1 a)", "(let ((%3 a)) %3)"}, {"(prog1 a b c)", "(let ((%3 a)) b c %3)"}, {"(prog2 a b)", "(progn a (prog1 b))"}, {"(prog2 a b c d)", "(progn a (prog1 b c d))"},
		{"(return)", "(return-from nil nil)"}, {"(return (f))", "(return-from nil (f))"},
		{"(psetq)", "(let () (setq) nil)"}, {"(psetq a b c d)", "(let ((%3 b) (%4 d)) (setq a %3 c %4) nil)"},
		{"(do () (end))", "(block nil (let () (tagbody %3 (if end (return-from nil (progn))) (psetq) (go %3))))"},
		{"(do ((a 1 b) (c 2) (d) e (f nil g)) (end r s) (declare (special a)) h 5 (i))", "(block nil (let ((a 1) (c 2) d e (f nil)) (declare (special a)) (tagbody %3 (if end (return-from nil (progn r s))) h 5 (i) (psetq a b f g) (go %3))))"},
		{"(do* ((a 1 b)) (end) c)", "(block nil (let* ((a 1)) (tagbody %3 (if end (return-from nil (progn))) c (setq a b) (go %3))))"},
		{"(prog () a)", "(block nil (let () (tagbody a)))"}, {"(prog (a (b 1) 5 ((c))) (declare x) d (e))", "(block nil (let (a (b 1) 5 ((c))) (declare x) (tagbody d (e))))"}, {"(prog* (a) (b))", "(block nil (let* (a) (tagbody (b))))"},
		{"(dolist (v l) (declare (special v)) (f) tag)", "(block nil (let ((%3 l) (v nil)) (declare (special v)) (tagbody %4 (if %3 (progn (setq v (car %3)) (tagbody (f) tag) (setq %3 (cdr %3)) (go %4)))) (setq v nil) nil))"},
		{"(dolist (v l r))", "(block nil (let ((%3 l) (v nil)) (tagbody %4 (if %3 (progn (setq v (car %3)) (tagbody) (setq %3 (cdr %3)) (go %4)))) (setq v nil) r))"},
		{"(dotimes (v n) (declare x) (f))", "(block nil (let ((%3 n) (v 0)) (declare x) (tagbody %4 (if (< v %3) (progn (tagbody (f)) (setq v (+ v 1)) (go %4)))) nil))"},
		{"(dotimes (v n r))", "(block nil (let ((%3 n) (v 0)) (tagbody %4 (if (< v %3) (progn (tagbody) (setq v (+ v 1)) (go %4)))) r))"},
		{"(multiple-value-bind (a b) (f) (declare x) c)", "(multiple-value-call #'(lambda (&optional a b &rest %3) (declare x) c) (f))"}, {"(multiple-value-bind () (f))", "(multiple-value-call #'(lambda (&optional &rest %3)) (f))"},
		{"(multiple-value-list (f))", "(multiple-value-call #'list (f))"}, {"(multiple-value-setq (a b) (f))", "(multiple-value-bind (%3 %4) (f) (setq a %3 b %4) %3)"}, {"(multiple-value-setq () (f))", "(prog1 (f))"}, {"(nth-value n (f))", "(nth n (multiple-value-list (f)))"},
		{"(defun f (x) x)", "(progn (%fset 'f #'(lambda (x) (block f x))) 'f)"}, {"(defun f 5)", "(progn (%fset 'f #'(lambda 5 (block f))) 'f)"}, {"(defun f () \"doc\")", "(progn (%fset 'f #'(lambda () (block f \"doc\"))) 'f)"},
		{"(defun f () \"doc\" (declare a) (declare b) \"x\" c)", "(progn (%fset 'f #'(lambda () (declare a) (declare b) (block f \"x\" c))) 'f)"}, {"(defun f () \"doc\" (declare a))", "(progn (%fset 'f #'(lambda () (declare a) (block f))) 'f)"}, {"(defun f () (declare a) \"x\" c)", "(progn (%fset 'f #'(lambda () (declare a) (block f \"x\" c))) 'f)"},
		{"(defun (setf f) (v x) v)", "(progn (%fset '|(SETF F)| #'(lambda (v x) (block f v))) '|(SETF F)|)"}, {"(defun (setf u::f) (v))", "(progn (%fset 'u::|(SETF F)| #'(lambda (v) (block u::f))) 'u::|(SETF F)|)"},
		{"(defvar s)", "'s"}, {"(defvar s (f))", "(progn (if (boundp 's) nil (set 's (f))) 's)"}, {"(defvar s 1 \"doc\")", "(progn (if (boundp 's) nil (set 's 1)) 's)"},
		{"(defparameter s (f))", "(progn (set 's (f)) 's)"}, {"(defparameter s 1 \"doc\")", "(progn (set 's 1) 's)"}, {"(defconstant s 1 \"doc\")", "(progn (set 's 1) 's)"},
		{"(defmacro m)", "'m"}, {"(defmacro m 5 . (6))", "'m"}, {"(declaim)", "nil"}, {"(declaim (special x) 5)", "nil"},
		{"(with-slots () x)", "(let ((%3 x)) (symbol-macrolet ()))"}, {"(with-slots (a b) (f) (declare x) c)", "(let ((%3 (f))) (symbol-macrolet ((a (slot-value %3 'a)) (b (slot-value %3 'b))) (declare x) c))"},
		{"(defclass c () ())", "(progn (%defclass 'c 'nil (list)) 'c)"},
		{"(defclass c (a b) (s) . (5 (:documentation)))", "(progn (%defclass 'c '(a b) (list (list 's 'nil nil nil))) 'c)"},
		{"(defclass c () ((s)))", "(progn (%defclass 'c 'nil (list (list 's 'nil nil nil))) 'c)"},
		{"(defclass c () ((s :initarg :i :initform (f) :allocation :class :type integer :documentation 5)))", "(progn (%defclass 'c 'nil (list (list 's ':i #'(lambda () (f)) t))) 'c)"},
		{"(defclass c () ((s :initform nil :allocation :instance) (r :initarg i)))", "(progn (%defclass 'c 'nil (list (list 's 'nil #'(lambda () nil) nil) (list 'r 'i nil nil))) 'c)"},
		{"(defclass c () ((s :initarg :i :initarg :j :initform 1 :initform 2 :allocation :class :allocation :instance)))", "(progn (%defclass 'c 'nil (list (list 's ':i #'(lambda () 1) t))) 'c)"},
		{"(defclass c () ((s :accessor a :reader r) (z :reader y)))", "(progn (%defclass 'c 'nil (list (list 's 'nil nil nil) (list 'z 'nil nil nil))) " + accessor + " (defmethod r ((%3 c)) (slot-value %3 's)) (defmethod y ((%3 c)) (slot-value %3 'z)) 'c)"},
		{"(defgeneric f (a b))", "(progn (%defgeneric 'f 'standard 2) (%fset 'f #'(lambda (&rest %3) (%call-generic 'f %3))) 'f)"},
		{"(defgeneric (setf f) (v &optional w &rest x) (:documentation 5) (:method-combination +) (:method-combination list))", "(progn (%defgeneric '|(SETF F)| '+ 1) (%fset '|(SETF F)| #'(lambda (&rest %3) (%call-generic '|(SETF F)| %3))) '|(SETF F)|)"},
		{"(defgeneric f () (x))", "(progn (%defgeneric 'f 'standard 0) (%fset 'f #'(lambda (&rest %3) (%call-generic 'f %3))) 'f)"},
		{"(defmethod f ())", method("f", "nil", "nil", "", "nil", "(block f)")},
		{"(defmethod f (a (b c) (d (eql (g))) (e nil) &optional (h 1)) \"x\" i)", method("f", "(a b d e &optional (h 1))", "nil", "'t 'c (list 'eql (g)) 'nil", "(a b d e &optional (h 1))", "(block f \"x\" i)")},
		{"(defmethod f :around x ((a b)) (declare y) i)", method("f", "(a)", "(:around x)", "'b", "(a)", "(declare y) (block f i)")},
		{"(defmethod (setf f) (v (a b)) i)", method("|(SETF F)|", "(v a)", "nil", "'t 'b", "(v a)", "(block f i)")},
		{"`(a ,b ,@c)", "(append (list 'a) (list b) c 'nil)"}, {"`a", "'a"}, {"`,(f)", "(f)"},
	}
}

// P22.1: the standard macros.
func TestOnce(t *testing.T) {
	for _, c := range onces() {
		f, want := form(t, c[0]), form(t, c[1])
		got, next, is, e := macro.Once(macro.New(), f, 3)
		fails(t, c[0], e, api.OK)
		if !is {
			t.Errorf("%s is no call", c[0])
		}
		same(t, c[0], got, want)
		taken := 0
		for _, name := range []string{"%3", "%4", "%5"} {
			if strings.Contains(c[1], name) {
				taken++
			}
		}
		if strings.HasPrefix(c[0], "(defclass") {
			taken = 2 // in any case
		}
		if next != 3+taken {
			t.Errorf("%s: %d is next", c[0], next)
		}
	}
	got, next, is, e := macro.Once(macro.New(), form(t, "(destructuring-bind (a . b) (f) (declare (special a)) c)"), 3)
	fails(t, "DESTRUCTURING-BIND", e, api.OK)
	if !is || next <= 3 || !strings.HasPrefix(text(got), "(let ((%3 (f))) (let* (") || !strings.HasSuffix(text(got), "(declare (special a)) c))") {
		t.Errorf("DESTRUCTURING-BIND: %s, %d", text(got), next)
	}
}

// P22.1: forms that are not as they must be.
func TestOnceForm(t *testing.T) {
	for _, l := range strings.Split(`(lambda)|(when)|(unless)|(case)|(typecase)|(prog1)|(prog2)|(prog2 a)|(return a b)|(when . a)|(and . a)|(or a . b)|(cond . a)
(cond a)|(cond nil)|(cond (a) b)|(cond (a . b))|(case k a)|(case k nil)|(case k (a . b))|(typecase k a)|(typecase k (a b) nil)
(psetq a)|(psetq a b c)|(psetq 1 a)|(psetq nil a)|(psetq :k a)|(psetq (a) b)|(psetq &rest a)
(do)|(do ())|(do a (b))|(do () b)|(do () ())|(do ((1)) (b))|(do (nil) (b))|(do (()) (b))|(do ((a 1 2 3)) (b))|(do (t) (b))|(do ((:a 1)) (b))|(do (5) (b))|(do ((a . 1)) (b))|(do (a . b) (c))|(do () (a . b))|(do*)|(do* ((nil 1)) (a))
(prog)|(prog a)|(prog (a . b))|(prog*)|(prog* 5)
(dolist)|(dolist a)|(dolist ())|(dolist (a))|(dolist (a b c d))|(dolist (1 b))|(dolist (nil b))|(dolist (a . b))|(dotimes)|(dotimes (a))|(dotimes (a b c d))|(dotimes ((a) b))|(dotimes (t 5))
(multiple-value-bind)|(multiple-value-bind (a))|(multiple-value-bind a (f))|(multiple-value-bind (1) (f))|(multiple-value-bind (a . b) (f))|(multiple-value-bind (nil) (f))|(multiple-value-bind (&rest) (f))|(multiple-value-list)|(multiple-value-list a b)|(multiple-value-setq)|(multiple-value-setq (a))|(multiple-value-setq (a) b c)|(multiple-value-setq a b)|(multiple-value-setq (t) b)|(nth-value)|(nth-value 1)|(nth-value 1 a b)
(defun)|(defun f)|(defun 1 ())|(defun (f) ())|(defun (setf) ())|(defun (setf f g) ())|(defun (setf 1) ())|(defun (setf . f) ())|(defun (u::setf f) ())|(defun "f" ())
(defvar)|(defvar 1)|(defvar nil)|(defvar :k)|(defvar (s))|(defvar s 1 2)|(defvar s 1 "doc" 2)|(defparameter)|(defparameter s)|(defparameter t 1)|(defparameter s 1 nil)|(defparameter s 1 "doc" 2)|(defconstant s)|(defconstant 5 1)|(defmacro)|(defmacro 1)|(defmacro (setf m) ())|(declaim . a)
(destructuring-bind)|(destructuring-bind (a))|(destructuring-bind 5 a)|(destructuring-bind (nil . 5) a)|(destructuring-bind (&optional &optional) a)
(with-slots)|(with-slots (a))|(with-slots a b)|(with-slots ((a b)) c)|(with-slots (nil) c)|(with-slots (1) c)|(with-slots (a . b) c)
(defclass)|(defclass c)|(defclass c ())|(defclass 1 () ())|(defclass c (1) ())|(defclass c a ())|(defclass c (a . b) ())|(defclass c () a)|(defclass c () (1))|(defclass c () (()) . a)|(defclass c () ((1)))|(defclass c () ((s :initarg)))|(defclass c () ((s initarg :i)))|(defclass c () ((s :foo 1)))|(defclass c () ((s :initarg 1)))|(defclass c () ((s :allocation 1)))|(defclass c () ((s :allocation class)))|(defclass c () ((s :reader (f))))|(defclass c () ((s :accessor 1)))|(defclass c () ((s :type)))|(defclass c () ((s . :type)))|(defclass c () ((s "x" 1)))
(defgeneric)|(defgeneric f)|(defgeneric 1 ())|(defgeneric f a)|(defgeneric f ((a b)))|(defgeneric f (a a))|(defgeneric f (1))|(defgeneric f () a)|(defgeneric f () ())|(defgeneric f () (:method-combination))|(defgeneric f () (:method-combination a b))|(defgeneric f () (:method-combination 1))|(defgeneric f () (a . b))|(defgeneric (setf 5) ())
(defmethod)|(defmethod f)|(defmethod f a)|(defmethod f :before)|(defmethod 1 ())|(defmethod f 1 ())|(defmethod f "x" ())|(defmethod f ((a)))|(defmethod f ((a b c)))|(defmethod f ((a 1)))|(defmethod f ((a (b c))))|(defmethod f ((a (eql))))|(defmethod f ((a (eql b c))))|(defmethod f ((a (eql . b))))|(defmethod f ((1 b)))|(defmethod f (1))|(defmethod f (a (a b)))|(defmethod f (nil))|(defmethod f (a . b))|(defmethod f (&optional (a b c d)))|(defmethod f (&rest))|(defmethod f ((a (u::eql b))))
(reader::backquote)|(reader::backquote a b)|(reader::backquote . a)`, "\n") {
		for _, wrong := range strings.Split(l, "|") {
			f, next, is, e := macro.Once(macro.New(), form(t, wrong), 3)
			fails(t, wrong, e, api.ErrForm)
			if f.Kind != 0 || next != 0 || is {
				t.Errorf("%s: %v, %d, %v with an error", wrong, f, next, is)
			}
		}
	}
	for wrong, want := range map[string]api.Errno{"(destructuring-bind (a a) b)": api.ErrTwice, "(reader::backquote (reader::splice a))": reader.ErrComma, "`(a #1=(b))": forms.ErrLabel} {
		_, _, is, e := macro.Once(macro.New(), form(t, wrong), 3)
		fails(t, wrong, e, want)
		if is {
			t.Errorf("%s is a call", wrong)
		}
	}
	for _, wrong := range []api.Form{{}, {Kind: api.FormCons, Kids: make([]api.Form, 2001)}, {Kind: api.FormRef, Text: "1"}} {
		_, _, _, e := macro.Once(macro.New(), wrong, 3)
		fails(t, "a wrong form", e, forms.Check(wrong))
	}
}

// P22.1: what is no call of an expander or a standard macro.
func TestOnceOthers(t *testing.T) {
	for _, other := range []string{"x", "5", "when", "nil", "()", "(car x)", "(u::when a)", "(:when a)", "((when a))", "(\"when\" a)", "#(when a)", "(if)", "(if . 5)", "(macrolet)", "(symbol-macrolet 5)", "(eval-when)", "(f . g)", "(backquote x)", "(reader::comma x)", "#1=(when . #1#)"} {
		f := form(t, other)
		got, next, is, e := macro.Once(macro.New(), f, 3)
		fails(t, other, e, api.OK)
		same(t, other, got, f)
		if next != 3 || is {
			t.Errorf("%s: %d, %v", other, next, is)
		}
	}
	expand := func(name string, by int, e api.Errno) macro.Named {
		return macro.Named{Name: name, Expand: func(f api.Form, fresh int) (api.Form, int, api.Errno) {
			return forms.Call(name+"!", []api.Form{f}), fresh + by, e
		}}
	}
	panics := macro.Named{Name: "PANICS", Expand: func(api.Form, int) (api.Form, int, api.Errno) { panic("!") }}
	table := macro.Table{Expanders: []macro.Named{expand("FOO", 2, api.OK), expand("FOO", 9, api.OK), expand("WHEN", 0, api.OK), expand("IF", 0, api.OK), expand("BAD", 0, 77), panics, {Name: "NONE"}}}
	table.Macros = []macro.Macro{{Name: form(t, "unless")}, {Name: form(t, "mine")}}
	for _, c := range []struct {
		from, to string
		next     int
		is       bool
		e        api.Errno
	}{
		{"(lisp::foo a . b)", "(lisp::foo! (lisp::foo a . b))", 5, true, api.OK}, {"(foo)", "(foo)", 3, false, api.OK}, {"(when)", "(lisp::when! (when))", 3, true, api.OK}, {"(if)", "(if)", 3, false, api.OK}, {"(lisp::bad)", "", 0, false, 77},
		{"(lisp::panics)", "", 0, false, api.ErrForm}, {"(lisp::none)", "", 0, false, api.ErrForm}, {"(unless)", "(unless)", 3, false, api.OK}, {"(mine a)", "(mine a)", 3, false, api.OK},
	} {
		lispHome := func(text string) api.Form {
			return renamed(form(t, text), func(s api.Form) api.Form {
				if s.Home == "LISP" {
					s.Home = lisp
				}
				return s
			})
		}
		got, next, is, e := macro.Once(table, lispHome(c.from), 3)
		fails(t, c.from, e, c.e)
		if c.e == api.OK {
			same(t, c.from, got, lispHome(c.to))
		}
		if next != c.next || is != c.is {
			t.Errorf("%s: %d, %v", c.from, next, is)
		}
	}
}

// P22.1: the names of the standard macros.
func TestStandard(t *testing.T) {
	want := strings.Fields("AND CASE COND DECLAIM DEFCLASS DEFCONSTANT DEFGENERIC DEFMACRO DEFMETHOD DEFPARAMETER DEFUN DEFVAR DESTRUCTURING-BIND DO DO* DOLIST DOTIMES LAMBDA MULTIPLE-VALUE-BIND MULTIPLE-VALUE-LIST MULTIPLE-VALUE-SETQ NTH-VALUE OR PROG PROG* PROG1 PROG2 PSETQ RETURN TYPECASE UNLESS WHEN WITH-SLOTS")
	got := macro.Standard()
	if !slices.Equal(got, want) {
		t.Errorf("the standard macros are %s", got)
	}
	got[0] = "X"
	if macro.Standard()[0] != "AND" {
		t.Error("what Standard returned was kept")
	}
	if table := macro.New(); len(table.Expanders)+len(table.Macros)+len(table.Specials) > 0 {
		t.Errorf("an empty table: %v", table)
	}
}
