package lib_test

import (
	"strings"
	"testing"

	"commonform/api"
	"commonform/heap"
	"commonform/lib"
)

// P20.1: the builtin functions, in the order of the tables, with their arities.
func TestNames(t *testing.T) {
	want := `CONS 2 2 CAR 1 1 CDR 1 1 RPLACA 2 2 RPLACD 2 2 LIST 0 -1 LIST* 1 -1 CONSP 1 1 ATOM 1 1 LISTP 1 1 NULL 1 1 NOT 1 1
APPEND 0 -1 REVERSE 1 1 NTH 2 2 NTHCDR 2 2 LAST 1 1 LENGTH 1 1 MEMBER 2 2 ASSOC 2 2 COPY-LIST 1 1
EQ 2 2 EQL 2 2 EQUAL 2 2 EQUALP 2 2 SYMBOLP 1 1 KEYWORDP 1 1 NUMBERP 1 1 INTEGERP 1 1 RATIONALP 1 1 REALP 1 1 FLOATP 1 1 COMPLEXP 1 1
CHARACTERP 1 1 STRINGP 1 1 BIT-VECTOR-P 1 1 VECTORP 1 1 ARRAYP 1 1 FUNCTIONP 1 1 HASH-TABLE-P 1 1
+ 0 -1 * 0 -1 - 1 -1 / 1 -1 = 1 -1 /= 1 -1 < 1 -1 <= 1 -1 > 1 -1 >= 1 -1 MAX 1 -1 MIN 1 -1 ABS 1 1 FLOOR 1 2 CEILING 1 2 TRUNCATE 1 2 ROUND 1 2 MOD 2 2 REM 2 2
GCD 0 -1 LCM 0 -1 LOGAND 0 -1 LOGIOR 0 -1 LOGXOR 0 -1 LOGNOT 1 1 ASH 2 2 EXPT 2 2 NUMERATOR 1 1 DENOMINATOR 1 1 COMPLEX 1 2 REALPART 1 1 IMAGPART 1 1 RATIONAL 1 1 RATIONALIZE 1 1 FLOAT 1 2
SYMBOL-NAME 1 1 SYMBOL-PACKAGE 1 1 SYMBOL-VALUE 1 1 SET 2 2 BOUNDP 1 1 MAKUNBOUND 1 1 SYMBOL-FUNCTION 1 1 %FSET 2 2 FBOUNDP 1 1 FMAKUNBOUND 1 1 SYMBOL-PLIST 1 1 %SET-PLIST 2 2
INTERN 1 2 FIND-SYMBOL 1 2 MAKE-SYMBOL 1 1 GENSYM 0 1
CHAR-CODE 1 1 CODE-CHAR 1 1 CHAR-UPCASE 1 1 CHAR-DOWNCASE 1 1 CHAR 2 2 STRING= 2 2 STRING< 2 2 CONCAT 0 -1 SUBSEQ 2 3 STRING 1 1
VECTOR 0 -1 MAKE-ARRAY 1 2 AREF 1 -1 %ASET 2 -1 ARRAY-DIMENSIONS 1 1 ARRAY-RANK 1 1 MAKE-HASH-TABLE 1 1 GETHASH 2 3 %PUTHASH 3 3 REMHASH 2 2 CLRHASH 1 1 HASH-TABLE-COUNT 1 1 HASH-KEYS 1 1
TYPEP 2 2 SUBTYPEP 2 2 FUNCALL 1 -1 APPLY 2 -1 VALUES 0 -1 IDENTITY 1 1
PRIN1 1 1 PRINC 1 1 PRINT 1 1 TERPRI 0 0 WRITE-STRING 1 1 PRIN1-TO-STRING 1 1 PRINC-TO-STRING 1 1 READ-FROM-STRING 1 1 FORMAT 2 -1`
	words := strings.Fields(want)
	var names []string
	w := newWorld(t)
	for i := 0; i < len(words); i += 3 {
		names = append(names, words[i])
		least, most, e := lib.Arity(words[i])
		equal(t, "Arity of "+words[i], []any{least, most, e}, []any{words[i+1], words[i+2], api.OK})
		// all numbers of arguments that do not fit are PROGRAM-ERROR with the symbol
		symbol := strings.ToLower(words[i])
		for _, n := range []int{least - 1, most + 1} {
			if n < 0 || n == 0 && most < 0 {
				continue
			}
			equal(t, words[i], answered(w, answer(t, w, words[i], make([]heap.Word, n)...)), "! PROGRAM-ERROR "+symbol)
		}
	}
	equal(t, "Names", lib.Names(), names)
	lib.Names()[0] = "SPOILED"
	equal(t, "Names", lib.Names(), names)
	least, most, e := lib.Arity("NOTHING")
	equal(t, "Arity of no function", []any{least, most, e}, []any{0, 0, api.ErrNone})
}

// P20.1, P20.5: conses.
func TestLists(t *testing.T) {
	calls(t, newWorld(t), []line{
		{"(cons 1 2)", "(1 . 2)"}, {"(car (1 . 2))", "1"}, {"(cdr (1 . 2))", "2"}, {"(car nil)", "nil"}, {"(cdr nil)", "nil"},
		{"(car 1)", "! TYPE-ERROR 1 list"}, {"(cdr \"a\")", "! TYPE-ERROR \"a\" list"}, {"(car x)", "! TYPE-ERROR x list"},
		{"(rplaca (1 . 2) 3)", "(3 . 2)"}, {"(rplacd (1 . 2) 3)", "(1 . 3)"}, {"(rplaca #1=(1 . 2) #1#)", "#0=(#0# . 2)"}, {"(rplaca nil 3)", "! TYPE-ERROR nil cons"}, {"(rplacd 5 3)", "! TYPE-ERROR 5 cons"},
		{"(list)", "nil"}, {"(list 1 2)", "(1 2)"}, {"(list* 1)", "1"}, {"(list* 1 2)", "(1 . 2)"}, {"(list* 1 2 (3))", "(1 2 3)"},
		{"(consp (1))", "t"}, {"(consp nil)", "nil"}, {"(atom (1))", "nil"}, {"(atom nil)", "t"}, {"(listp nil)", "t"}, {"(listp (1 . 2))", "t"}, {"(listp x)", "nil"}, {"(null nil)", "t"}, {"(null (1))", "nil"}, {"(not nil)", "t"}, {"(not 0)", "nil"},
		{"(append)", "nil"}, {"(append 5)", "5"}, {"(append (1) 5)", "(1 . 5)"}, {"(append (1 2) nil (3) (4))", "(1 2 3 4)"}, {"(append nil nil)", "nil"}, {"(append (1 . 2) 3)", "! TYPE-ERROR (1 . 2) list"}, {"(append 1 (2) 3)", "! TYPE-ERROR 1 list"}, {"(append (1) #1=(1 . #1#) 3)", "! TYPE-ERROR #0=(1 . #0#) list"}, {"(append (1) #1=(1 . #1#))", "(1 . #0=(1 . #0#))"},
		{"(reverse (1 2 3))", "(3 2 1)"}, {"(reverse nil)", "nil"}, {"(reverse (1 . 2))", "! TYPE-ERROR (1 . 2) list"}, {"(reverse \"ab\")", "! TYPE-ERROR \"ab\" list"}, {"(reverse #1=(1 . #1#))", "! TYPE-ERROR #0=(1 . #0#) list"},
		{"(nth 0 (1 2))", "1"}, {"(nth 1 (1 2))", "2"}, {"(nth 2 (1 2))", "nil"}, {"(nth 9 nil)", "nil"}, {"(nth 1 (1 . 2))", "! TYPE-ERROR 2 list"}, {"(nth 2 (1 . 2))", "! TYPE-ERROR 2 list"}, {"(nth -1 (1))", "! TYPE-ERROR -1 unsigned-byte"}, {"(nth x (1))", "! TYPE-ERROR x unsigned-byte"}, {"(nth 1 5)", "! TYPE-ERROR 5 list"},
		{"(nthcdr 0 (1 . 2))", "(1 . 2)"}, {"(nthcdr 1 (1 . 2))", "2"}, {"(nthcdr 2 (1 . 2))", "! TYPE-ERROR 2 list"}, {"(nthcdr 5 nil)", "nil"}, {"(nthcdr 0 5)", "! TYPE-ERROR 5 list"}, {"(nthcdr 10000 #1=(1 2 . #1#))", "#0=(1 2 . #0#)"}, {"(nthcdr 10001 #1=(1 2 . #1#))", "#0=(1 2 . #0#)"}, {"(nthcdr 9999 #1=(1 2 . #1#))", "#0=(2 1 . #0#)"}, {"(nthcdr 1000000000000000000000001 #1=(1 2 . #1#))", "#0=(1 2 . #0#)"},
		{"(last (1 2 3))", "(3)"}, {"(last (1 2 . 3))", "(2 . 3)"}, {"(last nil)", "nil"}, {"(last 5)", "! TYPE-ERROR 5 list"}, {"(last #1=(1 2 . #1#))", "! TYPE-ERROR #0=(1 2 . #0#) list"}, {"(last (0 0 0 . #1=(1 2 . #1#)))", "! TYPE-ERROR (0 0 0 . #0=(1 2 . #0#)) list"},
		{"(length nil)", "0"}, {"(length (1 2 3))", "3"}, {"(length \"aäb\")", "3"}, {"(length #*101)", "3"}, {"(length #(1 2))", "2"}, {"(length (1 . 2))", "! TYPE-ERROR (1 . 2) sequence"}, {"(length #2a((1)))", "! TYPE-ERROR #2A((1)) sequence"}, {"(length #1=(1 . #1#))", "! TYPE-ERROR #0=(1 . #0#) sequence"}, {"(length x)", "! TYPE-ERROR x sequence"},
		{"(member 2 (1 2 3))", "(2 3)"}, {"(member 4 (1 2 3))", "nil"}, {"(member 2.0 (2 2.0))", "(2.0)"}, {"(member \"a\" (\"a\"))", "nil"}, {"(member 100000000000000000000 (1 100000000000000000000))", "(100000000000000000000)"}, {"(member 1 5)", "! TYPE-ERROR 5 list"}, {"(member 1 (1 . 2))", "! TYPE-ERROR (1 . 2) list"},
		{"(assoc 2 ((1 . a) nil (2 . b)))", "(2 . b)"}, {"(assoc 3 ((1 . a) nil))", "nil"}, {"(assoc nil (nil (nil . 1)))", "(nil . 1)"}, {"(assoc 2 ((2) 5))", "(2)"}, {"(assoc 2 ((1) 5 (2)))", "! TYPE-ERROR 5 list"}, {"(assoc 1 ((2) . 5))", "! TYPE-ERROR ((2) . 5) list"},
		{"(copy-list (1 (2)))", "(1 (2))"}, {"(copy-list nil)", "nil"}, {"(copy-list (1 . 2))", "! TYPE-ERROR (1 . 2) list"},
	})
}

// P20.1: what is the same, and the kinds of objects.
func TestKinds(t *testing.T) {
	w := newWorld(t)
	calls(t, w, []line{
		{"(eq x x)", "t"}, {"(eq 1 1)", "t"}, {"(eq 1.0 1.0)", "nil"}, {"(eql 1.0 1.0)", "t"}, {"(eql 1 1.0)", "nil"}, {"(eql \"a\" \"a\")", "nil"}, {"(equal \"a\" \"a\")", "t"}, {"(equal (1 \"a\") (1 \"a\"))", "t"}, {"(equal \"a\" \"A\")", "nil"}, {"(equal #(1) #(1))", "nil"}, {"(equalp #(1) #(1.0))", "t"}, {"(equalp \"a\" \"A\")", "t"}, {"(equalp 1 2)", "nil"}, {"(equal #1=(1 . #1#) #2=(1 1 . #2#))", "t"},
	})
	table := answer(t, w, "MAKE-HASH-TABLE", symbol(t, w, "COMMON-LISP", "EQ")).Values[0]
	car, _ := w.Function(symbol(t, w, "COMMON-LISP", "CAR"))
	closure, _ := w.Heap().New(heap.KindClosure, 2)
	code, _ := w.Heap().New(heap.KindCode, 0)
	weak, _ := w.Heap().New(heap.KindWeak, 1)
	predicates := []string{"SYMBOLP", "KEYWORDP", "NUMBERP", "INTEGERP", "RATIONALP", "REALP", "FLOATP", "COMPLEXP", "CHARACTERP", "STRINGP", "BIT-VECTOR-P", "VECTORP", "ARRAYP", "FUNCTIONP", "HASH-TABLE-P"}
	for _, c := range []struct {
		x    heap.Word
		want string // the first letters of those that hold
	}{
		{object(t, w, "x"), "S"}, {heap.Nil, "S"}, {object(t, w, "#:x"), "S"}, {object(t, w, ":k"), "SK"}, {fix(5), "NIRE"}, {fix(-5), "NIRE"}, {object(t, w, "100000000000000000000"), "NIRE"},
		{object(t, w, "1/2"), "NRE"}, {object(t, w, "1.5"), "NEF"}, {object(t, w, "1.5d0"), "NEF"}, {object(t, w, "#c(1 2)"), "NC"}, {object(t, w, "#\\a"), "H"},
		{object(t, w, "\"a\""), "TVA"}, {object(t, w, "#*1"), "BVA"}, {object(t, w, "#(1)"), "VA"}, {object(t, w, "#2a((1))"), "A"}, {object(t, w, "#0a1"), "A"}, {object(t, w, "(1)"), ""},
		{table, "M"}, {car, "U"}, {closure, "U"}, {code, "U"}, {weak, ""}, {heap.Unbound, ""},
	} {
		got := ""
		for i, name := range predicates {
			if a := answer(t, w, name, c.x); text(w, a.Values[0]) == "t" {
				got += string("SKNIREFCHTBVAUM"[i])
			}
		}
		equal(t, "the kinds of "+text(w, c.x), got, c.want)
	}
}

// P20.1: numbers.
func TestNumbers(t *testing.T) {
	calls(t, newWorld(t), []line{
		{"(+)", "0"}, {"(+ 1 2 3)", "6"}, {"(+ 1/2 1/2)", "1"}, {"(+ 1 1.5)", "2.5"}, {"(+ 1152921504606846975 1)", "1152921504606846976"}, {"(+ -1152921504606846976 -1)", "-1152921504606846977"}, {"(+ 1152921504606846976 -1)", "1152921504606846975"}, {"(+ #c(1 2) #c(1 -2))", "2"}, {"(+ x 1)", "! TYPE-ERROR x number"}, {"(+ 1 nil x)", "! TYPE-ERROR nil number"}, {"(+ -0.0)", "0.0"},
		{"(*)", "1"}, {"(* 2 3 4)", "24"}, {"(* 1/2 4)", "2"}, {"(* #c(0 1) #c(0 1))", "-1"}, {"(- 5)", "-5"}, {"(- 5 1 2)", "2"}, {"(- 0.0)", "-0.0"}, {"(-  1.0d0 1)", "0.0d0"}, {"(/ 2)", "1/2"}, {"(/ 12 2 3)", "2"}, {"(/ 1 0)", "! DIVISION-BY-ZERO"}, {"(/ 0)", "! DIVISION-BY-ZERO"}, {"(/ 1.0 0)", "! DIVISION-BY-ZERO"}, {"(/ 1 0 x)", "! TYPE-ERROR x number"}, {"(- x)", "! TYPE-ERROR x number"},
		{"(* 1e30 1e30)", "! ARITHMETIC-ERROR"}, {"(+ 3e38 3e38)", "! ARITHMETIC-ERROR"},
		{"(= 1)", "t"}, {"(= 1 1.0 1)", "t"}, {"(= 1 2 1)", "nil"}, {"(= 1 1 2)", "nil"}, {"(= #c(1 2) #c(1.0 2.0))", "t"}, {"(/= 1)", "t"}, {"(/= 1 2 3)", "t"}, {"(/= 1 2 1)", "nil"}, {"(/= 1 2 2.0)", "nil"}, {"(= x)", "! TYPE-ERROR x number"},
		{"(< 1)", "t"}, {"(< 1 2 3)", "t"}, {"(< 1 2 2)", "nil"}, {"(<= 1 2 2)", "t"}, {"(<= 1 3 2)", "nil"}, {"(> 3 2 1)", "t"}, {"(> 3 3)", "nil"}, {"(>= 3 3 1/2)", "t"}, {"(>= 3 4)", "nil"}, {"(< 1 #c(1 2))", "! TYPE-ERROR #C(1 2) real"}, {"(> x 1)", "! TYPE-ERROR x real"},
		{"(max 1 3 2)", "3"}, {"(max 1 1.0)", "1"}, {"(max 1.0 1)", "1.0"}, {"(min 2 1 3)", "1"}, {"(min 1 1.0)", "1"}, {"(min 5)", "5"}, {"(max)", "! PROGRAM-ERROR max"}, {"(min #c(1 2))", "! TYPE-ERROR #C(1 2) real"},
		{"(abs -5)", "5"}, {"(abs -1/2)", "1/2"}, {"(abs -0.0)", "0.0"}, {"(abs #c(1 2))", "! TYPE-ERROR #C(1 2) real"},
		{"(floor -7 2)", "-4 1"}, {"(ceiling -7 2)", "-3 -1"}, {"(truncate -7 2)", "-3 -1"}, {"(round -7 2)", "-4 1"}, {"(ceiling 7 2)", "4 -1"}, {"(truncate 7 2)", "3 1"}, {"(round 7 2)", "4 -1"}, {"(round 5/2)", "2 1/2"}, {"(floor 5/2)", "2 1/2"}, {"(floor -3.5)", "-4 0.5"}, {"(truncate 7 2.0)", "3 1.0"}, {"(floor 1 0)", "! DIVISION-BY-ZERO"}, {"(round 1 0.0)", "! DIVISION-BY-ZERO"},
		{"(mod -7 2)", "1"}, {"(rem -7 2)", "-1"}, {"(mod 5/2 1)", "1/2"}, {"(mod 1 0)", "! DIVISION-BY-ZERO"}, {"(rem x 1)", "! TYPE-ERROR x real"},
		{"(gcd)", "0"}, {"(gcd 12 -18)", "6"}, {"(lcm)", "1"}, {"(lcm 4 6)", "12"}, {"(lcm 4 0)", "0"}, {"(gcd 1/2)", "! TYPE-ERROR 1/2 integer"}, {"(lcm 1.0)", "! TYPE-ERROR 1.0 integer"},
		{"(logand)", "-1"}, {"(logand 12 10)", "8"}, {"(logior)", "0"}, {"(logior 12 10)", "14"}, {"(logxor)", "0"}, {"(logxor 12 10 1)", "7"}, {"(lognot 5)", "-6"}, {"(lognot -1)", "0"}, {"(logand 1.0)", "! TYPE-ERROR 1.0 integer"},
		{"(ash 1 70)", "1180591620717411303424"}, {"(ash -5 -1)", "-3"}, {"(ash 5 -100000000000000000000)", "0"}, {"(ash -5 -100000000000000000000)", "-1"}, {"(ash 0 100000000000000000000)", "0"}, {"(ash 1 100000000000000000000)", "! ARITHMETIC-ERROR"}, {"(ash 1 65537)", "! ARITHMETIC-ERROR"}, {"(ash 0 65537)", "0"}, {"(ash 5 -65537)", "0"}, {"(ash 1 65536)", "! ARITHMETIC-ERROR"}, {"(ash 1.0 1)", "! TYPE-ERROR 1.0 integer"},
		{"(expt 2 10)", "1024"}, {"(expt 2 -2)", "1/4"}, {"(expt 0 0)", "1"}, {"(expt 0 -1)", "! DIVISION-BY-ZERO"}, {"(expt 2 4097)", "! ARITHMETIC-ERROR"}, {"(expt 1 -4097)", "! ARITHMETIC-ERROR"}, {"(expt 1 4096)", "1"}, {"(expt 1 -4096)", "1"}, {"(expt 1 100000000000000000000)", "! ARITHMETIC-ERROR"}, {"(expt 1 -100000000000000000000)", "! ARITHMETIC-ERROR"}, {"(expt 1000000000000000000000 4000)", "! ARITHMETIC-ERROR"}, {"(expt #c(0 1) 2)", "-1"}, {"(expt 2 1/2)", "! TYPE-ERROR 1/2 integer"},
		{"(numerator 6/4)", "3"}, {"(denominator 6/4)", "2"}, {"(denominator 5)", "1"}, {"(numerator 1.0)", "! TYPE-ERROR 1.0 rational"}, {"(complex 1)", "1"}, {"(complex 1 2)", "#C(1 2)"}, {"(complex 1 0)", "1"}, {"(complex 1.0)", "#C(1.0 0.0)"}, {"(complex 1 2.0)", "#C(1.0 2.0)"}, {"(complex #c(1 2) 1)", "! TYPE-ERROR #C(1 2) real"},
		{"(realpart #c(1 2))", "1"}, {"(imagpart #c(1 2))", "2"}, {"(realpart 5)", "5"}, {"(imagpart 5)", "0"}, {"(imagpart 5.0)", "0.0"}, {"(rational 0.5)", "1/2"}, {"(rationalize 0.1)", "1/10"}, {"(rational #c(1 2))", "! TYPE-ERROR #C(1 2) real"},
		{"(float 1)", "1.0"}, {"(float 1/2 1.0d0)", "0.5d0"}, {"(float 1.5d0)", "1.5d0"}, {"(float 1.5d0 1.0)", "1.5"}, {"(float 1.5d0 7)", "1.5d0"}, {"(float 1 7)", "1.0"}, {"(float 1000000000000000000000000000000000000000)", "! ARITHMETIC-ERROR"}, {"(float #c(1 2))", "! TYPE-ERROR #C(1 2) real"},
	})
}

// P20.1, P20.6: symbols.
func TestSymbols(t *testing.T) {
	w := newWorld(t)
	calls(t, w, []line{
		{"(symbol-name foo)", "\"FOO\""}, {"(symbol-name |a b|)", "\"a b\""}, {"(symbol-name \"a\")", "! TYPE-ERROR \"a\" symbol"}, {"(symbol-package foo)", "\"COMMON-LISP-USER\""}, {"(symbol-package car)", "\"COMMON-LISP\""}, {"(symbol-package :k)", "\"KEYWORD\""}, {"(symbol-package #:x)", "nil"},
		{"(symbol-value foo)", "! UNBOUND-VARIABLE foo"}, {"(boundp foo)", "nil"}, {"(set foo 5)", "5"}, {"(symbol-value foo)", "5"}, {"(boundp foo)", "t"}, {"(makunbound foo)", "foo"}, {"(symbol-value foo)", "! UNBOUND-VARIABLE foo"},
		{"(symbol-value nil)", "nil"}, {"(symbol-value t)", "t"}, {"(symbol-value :k)", ":k"}, {"(set nil 1)", "! PROGRAM-ERROR nil"}, {"(set t t)", "! PROGRAM-ERROR t"}, {"(set :k 1)", "! PROGRAM-ERROR :k"}, {"(makunbound :k)", "! PROGRAM-ERROR :k"}, {"(makunbound t)", "! PROGRAM-ERROR t"}, {"(set car 1)", "1"}, {"(set 5 1)", "! TYPE-ERROR 5 symbol"},
		{"(symbol-function foo)", "! UNDEFINED-FUNCTION foo"}, {"(fboundp foo)", "nil"}, {"(fboundp car)", "t"}, {"(%fset foo car)", "%::builtin"}, {"(foo (1 . 2))", "1"}, {"(symbol-function foo)", "%::builtin"}, {"(%fset bar foo)", "%::builtin"}, {"(bar (1))", "1"}, {"(fmakunbound foo)", "foo"}, {"(foo (1))", "! UNDEFINED-FUNCTION foo"}, {"(bar (1))", "1"}, {"(%fset foo quux)", "! UNDEFINED-FUNCTION quux"}, {"(%fset foo 5)", "! TYPE-ERROR 5 function"}, {"(%fset foo (lambda))", "! TYPE-ERROR (lambda) function"}, {"(%fset :k bar)", "%::builtin"}, {"(:k (1))", "1"}, {"(fmakunbound :k)", ":k"}, {"(fboundp :k)", "nil"},
		{"(symbol-plist foo)", "nil"}, {"(%set-plist foo (a 1))", "(a 1)"}, {"(symbol-plist foo)", "(a 1)"}, {"(%set-plist nil 7)", "7"}, {"(symbol-plist nil)", "7"}, {"(symbol-plist 5)", "! TYPE-ERROR 5 symbol"},
		{"(find-symbol \"NEW\")", "nil nil"}, {"(intern \"NEW\")", "new nil"}, {"(intern \"NEW\")", "new :internal"}, {"(find-symbol \"NEW\")", "new :internal"}, {"(intern \"CAR\")", "car :inherited"}, {"(intern \"CAR\" \"COMMON-LISP\")", "car :external"}, {"(find-symbol \"CAR\" \"CL\")", "car :external"}, {"(intern \"KEY\" \"KEYWORD\")", ":key nil"}, {"(symbol-value :key)", ":key"}, {"(find-symbol \"KEY\" \"KEYWORD\")", ":key :external"}, {"(find-symbol \"NEW\" \"KEYWORD\")", "nil nil"},
		{"(intern \"X\" \"NOWHERE\")", "! PACKAGE-ERROR \"NOWHERE\""}, {"(find-symbol \"X\" \"NOWHERE\")", "! PACKAGE-ERROR \"NOWHERE\""}, {"(intern x)", "! TYPE-ERROR x string"}, {"(intern \"X\" x)", "! TYPE-ERROR x string"}, {"(intern \"" + strings.Repeat("x", 61) + "\")", "! PACKAGE-ERROR \"COMMON-LISP-USER\""}, {"(find-symbol \"" + strings.Repeat("x", 61) + "\" \"CL\")", "! PACKAGE-ERROR \"CL\""},
		{"(make-symbol \"a\")", "#:|a|"}, {"(make-symbol \"" + strings.Repeat("x", 61) + "\")", "! PACKAGE-ERROR \"" + strings.Repeat("x", 61) + "\""}, {"(make-symbol x)", "! TYPE-ERROR x string"},
		{"(gensym)", "#:g0"}, {"(gensym \"\")", "#:|1|"}, {"(gensym \"V\")", "#:v2"}, {"(gensym \"" + strings.Repeat("x", 60) + "\")", "! PACKAGE-ERROR \"" + strings.Repeat("x", 60) + "\""}, {"(gensym 5)", "! TYPE-ERROR 5 string"}, {"(gensym \"" + strings.Repeat("X", 59) + "\")", "#:" + strings.Repeat("x", 59) + "3"}, {"(gensym)", "#:g4"},
	})
	if answer(t, w, "MAKE-SYMBOL", object(t, w, "\"A\"")).Values[0] == answer(t, w, "MAKE-SYMBOL", object(t, w, "\"A\"")).Values[0] {
		t.Error("MAKE-SYMBOL returned a symbol that was there")
	}
	for w.Symbols() != nil {
		if _, e := w.Symbols().Fresh("X"); e != api.OK {
			break
		}
	}
	calls(t, w, []line{
		{"(gensym)", "! PACKAGE-ERROR \"G\""}, {"(gensym \"V\")", "! PACKAGE-ERROR \"V\""}, {"(make-symbol \"V\")", "! PACKAGE-ERROR \"V\""}, {"(intern \"NEWER\")", "! PACKAGE-ERROR \"COMMON-LISP-USER\""}, {"(intern \"NEWER\" \"CL\")", "! PACKAGE-ERROR \"CL\""}, {"(find-symbol \"NEWER\")", "nil nil"}, {"(intern \"CAR\")", "car :inherited"}, {"(read-from-string \"another\")", "! PARSE-ERROR \"another\""},
	})
}

// P20.1: where the table has no room for the symbol of a status, that is a limit.
func TestFullStatus(t *testing.T) {
	w := newWorld(t)
	name := object(t, w, "\"CAR\"")
	for {
		if _, e := w.Symbols().Fresh("X"); e != api.OK {
			break
		}
	}
	equal(t, "INTERN", answered(w, answer(t, w, "INTERN", name)), "limit 9")
	equal(t, "FIND-SYMBOL", answered(w, answer(t, w, "FIND-SYMBOL", name)), "limit 9")
}

// P20.1: characters, strings and parts of sequences.
func TestStrings(t *testing.T) {
	calls(t, newWorld(t), []line{
		{"(char-code #\\a)", "97"}, {"(char-code 97)", "! TYPE-ERROR 97 character"}, {"(code-char 97)", "#\\a"}, {"(code-char 55296)", "nil"}, {"(code-char 57343)", "nil"}, {"(code-char 57344)", "#\\\ue000"}, {"(code-char 1114111)", "#\\\U0010ffff"}, {"(code-char 1114112)", "nil"}, {"(code-char 100000000000000000000)", "nil"}, {"(code-char -1)", "! TYPE-ERROR -1 unsigned-byte"}, {"(code-char -100000000000000000000)", "! TYPE-ERROR -100000000000000000000 unsigned-byte"}, {"(code-char 4294967393)", "nil"},
		{"(char-upcase #\\a)", "#\\A"}, {"(char-upcase #\\z)", "#\\Z"}, {"(char-upcase #\\ä)", "#\\ä"}, {"(char-upcase #\\{)", "#\\{"}, {"(char-downcase #\\A)", "#\\a"}, {"(char-downcase #\\Z)", "#\\z"}, {"(char-downcase #\\[)", "#\\["}, {"(char-downcase #\\@)", "#\\@"}, {"(char-upcase \"a\")", "! TYPE-ERROR \"a\" character"},
		{"(char \"aäb\" 1)", "#\\ä"}, {"(char \"aäb\" 2)", "#\\b"}, {"(char \"ab\" 2)", "! TYPE-ERROR 2 integer"}, {"(char \"ab\" 100000000000000000000)", "! TYPE-ERROR 100000000000000000000 integer"}, {"(char \"ab\" -1)", "! TYPE-ERROR -1 unsigned-byte"}, {"(char x 0)", "! TYPE-ERROR x string"},
		{"(string= \"ab\" \"ab\")", "t"}, {"(string= \"ab\" \"abc\")", "nil"}, {"(string= \"a\" x)", "! TYPE-ERROR x string"}, {"(string< \"ab\" \"abc\")", "2"}, {"(string< \"abc\" \"ab\")", "nil"}, {"(string< \"ab\" \"ab\")", "nil"}, {"(string< \"aä\" \"aö\")", "1"}, {"(string< \"b\" \"ab\")", "nil"}, {"(string< \"\" \"a\")", "0"}, {"(string< \"\" \"\")", "nil"}, {"(string< \"äa\" \"äb\")", "1"}, {"(string< \"\uffff\" \"\U00010000\")", "0"},
		{"(concat)", "\"\""}, {"(concat \"ab\" \"\" \"ä\")", "\"abä\""}, {"(concat \"a\" #\\b)", "! TYPE-ERROR #\\b string"},
		{"(subseq \"hello\" 1 3)", "\"el\""}, {"(subseq \"hällo\" 1 2)", "\"ä\""}, {"(subseq \"hällo\" 2)", "\"llo\""}, {"(subseq \"ab\" 2)", "\"\""}, {"(subseq \"ab\" 3)", "! TYPE-ERROR 3 integer"}, {"(subseq \"ab\" 1 3)", "! TYPE-ERROR 3 integer"}, {"(subseq \"ab\" 2 1)", "! TYPE-ERROR 1 integer"}, {"(subseq \"ab\" 3 4)", "! TYPE-ERROR 3 integer"}, {"(subseq \"ab\" 100000000000000000000)", "! TYPE-ERROR 100000000000000000000 integer"}, {"(subseq \"ab\" 0 0)", "\"\""}, {"(subseq \"ab\" -1)", "! TYPE-ERROR -1 unsigned-byte"}, {"(subseq \"ab\" 0 nil)", "! TYPE-ERROR nil unsigned-byte"},
		{"(subseq (1 2 3) 1)", "(2 3)"}, {"(subseq (1 2 3) 3)", "nil"}, {"(subseq nil 0)", "nil"}, {"(subseq nil 0 0)", "nil"}, {"(subseq nil 1)", "! TYPE-ERROR 1 integer"}, {"(subseq #(1 2 3) 1 2)", "#(2)"}, {"(subseq #*101 1)", "#*01"}, {"(subseq #*101 3)", "#*"}, {"(subseq (1 . 2) 0)", "! TYPE-ERROR (1 . 2) sequence"}, {"(subseq #2a((1)) 0)", "! TYPE-ERROR #2A((1)) sequence"},
		{"(string \"a\")", "\"a\""}, {"(string foo)", "\"FOO\""}, {"(string nil)", "\"NIL\""}, {"(string #\\a)", "\"a\""}, {"(string 5)", "! TYPE-ERROR 5 string"}, {"(string (a))", "! TYPE-ERROR (a) string"},
	})
}

// P20.1: arrays.
func TestArrays(t *testing.T) {
	calls(t, newWorld(t), []line{
		{"(vector)", "#()"}, {"(vector 1 2)", "#(1 2)"}, {"(make-array 3)", "#(nil nil nil)"}, {"(make-array 2 1)", "#(1 1)"}, {"(make-array 0)", "#()"}, {"(make-array (2))", "#(nil nil)"}, {"(make-array nil)", "#0Anil"}, {"(make-array nil 5)", "#0A5"}, {"(make-array (2 3) 0)", "#2A((0 0 0) (0 0 0))"}, {"(make-array (0 3))", "#2A()"}, {"(make-array (1 2 0))", "#3A((() ()))"}, {"(make-array (1 1 1 1 1 1 1) 9)", "#7A(((((((9)))))))"},
		{"(make-array (1 1 1 1 1 1 1 1))", "limit 11"}, {"(make-array 16385)", "limit 11"}, {"(make-array (129 128))", "limit 11"}, {"(make-array 100000000000000000000)", "limit 11"}, {"(make-array (100000000000000000000))", "limit 11"}, {"(make-array (4294967296 4294967296))", "limit 11"}, {"(make-array (0 4294967296 4294967296))", "?4"},
		{"(make-array -1)", "! TYPE-ERROR -1 list"}, {"(make-array 1.0)", "! TYPE-ERROR 1.0 list"}, {"(make-array x)", "! TYPE-ERROR x list"}, {"(make-array (1 -1))", "! TYPE-ERROR (1 -1) list"}, {"(make-array (1 . 2))", "! TYPE-ERROR (1 . 2) list"}, {"(make-array (1 x))", "! TYPE-ERROR (1 x) list"}, {"(make-array #1=(1 . #1#))", "! TYPE-ERROR #0=(1 . #0#) list"},
		{"(aref #(1 2) 1)", "2"}, {"(aref \"aä\" 1)", "#\\ä"}, {"(aref #*10 0)", "1"}, {"(aref #*10 1)", "0"}, {"(aref #2a((1 2) (3 4)) 1 0)", "3"}, {"(aref #0a5)", "5"}, {"(aref #(1) 1)", "! TYPE-ERROR 1 integer"}, {"(aref #(1))", "! PROGRAM-ERROR aref"}, {"(aref #(1) 0 0)", "! PROGRAM-ERROR aref"}, {"(aref #2a((1 2) (3 4)) 1)", "! PROGRAM-ERROR aref"}, {"(aref #2a((1 2) (3 4)) 2 2)", "! TYPE-ERROR 2 integer"}, {"(aref #2a((1 2) (3 4)) 1 5)", "! TYPE-ERROR 5 integer"}, {"(aref #2a((1 2) (3 4)) 1 -5)", "! TYPE-ERROR -5 unsigned-byte"}, {"(aref #(1) 100000000000000000000)", "! TYPE-ERROR 100000000000000000000 integer"}, {"(aref (1) 0)", "! TYPE-ERROR (1) array"}, {"(aref \"a\" 1)", "! TYPE-ERROR 1 integer"}, {"(aref #*1 1)", "! TYPE-ERROR 1 integer"}, {"(aref #0a5 0)", "! PROGRAM-ERROR aref"},
		{"(%aset #(1 2) 1 9)", "9"}, {"(%aset #2a((1 2) (3 4)) 1 0 9)", "9"}, {"(%aset #0a5 6)", "6"}, {"(%aset \"ab\" 0 #\\c)", "! TYPE-ERROR \"ab\" array"}, {"(%aset #*1 7 7 7)", "! TYPE-ERROR #*1 array"}, {"(%aset #(1) 9)", "! PROGRAM-ERROR %aset"}, {"(%aset #(1) 1 9)", "! TYPE-ERROR 1 integer"}, {"(%aset #(1) x 9)", "! TYPE-ERROR x unsigned-byte"}, {"(%aset 5 0 1)", "! TYPE-ERROR 5 array"}, {"(%aset #(1) 0 0 1)", "! PROGRAM-ERROR %aset"},
		{"(array-dimensions #(1 2))", "(2)"}, {"(array-dimensions \"aä\")", "(2)"}, {"(array-dimensions #*101)", "(3)"}, {"(array-dimensions #2a((1 2)))", "(1 2)"}, {"(array-dimensions #0a5)", "nil"}, {"(array-rank #(1))", "1"}, {"(array-rank #3a(((1))))", "3"}, {"(array-rank #0a5)", "0"}, {"(array-rank \"a\")", "1"}, {"(array-rank 5)", "! TYPE-ERROR 5 array"},
	})
	w := newWorld(t)
	for _, c := range []struct{ array, want string }{{"#(1 2 3)", "#(1 9 3)"}, {"#2a((1 2) (3 4))", "#2A((1 2) (3 9))"}} {
		x := object(t, w, c.array)
		i := []heap.Word{fix(1), fix(9)}
		if strings.HasPrefix(c.array, "#2") {
			i = []heap.Word{fix(1), fix(1), fix(9)}
		}
		answer(t, w, "%ASET", append([]heap.Word{x}, i...)...)
		equal(t, "behind %ASET", text(w, x), c.want)
		equal(t, "AREF", answered(w, answer(t, w, "AREF", append([]heap.Word{x}, i[:len(i)-1]...)...)), "9")
	}
	big := answer(t, w, "MAKE-ARRAY", fix(16384)).Values[0]
	equal(t, "the largest vector", w.Heap().Len(big), 16384)
	equal(t, "its Show", text(w, big), "?4")
	equal(t, "its LENGTH", answered(w, answer(t, w, "LENGTH", big)), "16384")
}

// P20.1: hash tables.
func TestTables(t *testing.T) {
	w := newWorld(t)
	for _, c := range []struct{ test, found string }{{"eq", "nil nil"}, {"eql", "nil nil"}, {"equal", "5 t"}, {"equalp", "5 t"}} {
		a := answer(t, w, "MAKE-HASH-TABLE", object(t, w, c.test))
		h := a.Values[0]
		equal(t, "a table", answered(w, a), "%::table")
		equal(t, "%PUTHASH", answered(w, answer(t, w, "%PUTHASH", object(t, w, "\"a\""), h, fix(5))), "5")
		equal(t, "GETHASH with "+c.test, answered(w, answer(t, w, "GETHASH", object(t, w, "\"a\""), h)), c.found)
		equal(t, "GETHASH of another key", answered(w, answer(t, w, "GETHASH", object(t, w, "\"b\""), h, fix(7))), "7 nil")
		answer(t, w, "%PUTHASH", fix(3), h, fix(1))
		answer(t, w, "%PUTHASH", fix(2), h, fix(1))
		equal(t, "HASH-KEYS", answered(w, answer(t, w, "HASH-KEYS", h)), "(\"a\" 3 2)")
		equal(t, "REMHASH", answered(w, answer(t, w, "REMHASH", fix(3), h)), "t")
		equal(t, "REMHASH again", answered(w, answer(t, w, "REMHASH", fix(3), h)), "nil")
		equal(t, "HASH-TABLE-COUNT", answered(w, answer(t, w, "HASH-TABLE-COUNT", h)), "2")
		equal(t, "CLRHASH", answered(w, answer(t, w, "CLRHASH", h)), "%::table")
		equal(t, "HASH-KEYS of an empty table", answered(w, answer(t, w, "HASH-KEYS", h)), "nil")
	}
	calls(t, w, []line{
		{"(make-hash-table car)", "! TYPE-ERROR car function"}, {"(make-hash-table :eql)", "%::table"}, {"(make-hash-table \"EQ\")", "! TYPE-ERROR \"EQ\" symbol"}, {"(gethash 1 2)", "! TYPE-ERROR 2 hash-table"}, {"(%puthash 1 nil 2)", "! TYPE-ERROR nil hash-table"}, {"(remhash 1 x)", "! TYPE-ERROR x hash-table"}, {"(clrhash 1)", "! TYPE-ERROR 1 hash-table"}, {"(hash-keys 1)", "! TYPE-ERROR 1 hash-table"}, {"(hash-table-count 1)", "! TYPE-ERROR 1 hash-table"},
	})
}

// P20.1: types, calls and values.
func TestTypes(t *testing.T) {
	w := newWorld(t)
	for _, name := range []string{"BIT", "OR"} {
		n, _, _ := w.Symbols().Intern("COMMON-LISP", name)
		w.Symbols().Export("COMMON-LISP", n)
	}
	calls(t, w, []line{
		{"(typep 1 bit)", "t"}, {"(typep 2 bit)", "nil"}, {"(typep (1 . 2) (cons integer))", "t"}, {"(typep \"a\" (string 1))", "t"}, {"(typep x (member x y))", "t"}, {"(typep nil null)", "t"}, {"(typep 1 nothing)", "! SIMPLE-ERROR nothing"}, {"(typep 1 (integer x))", "! SIMPLE-ERROR (integer x)"}, {"(typep 1 5)", "! SIMPLE-ERROR 5"},
		{"(typep #1=(1 . #1#) cons)", "t"}, {"(typep #1=(1 . #1#) (cons integer))", "nil"}, {"(typep #1=(1 . #1#) (cons symbol))", "nil"}, {"(typep #1=(1 . #1#) t)", "t"}, {"(typep #1=#(#1#) vector)", "nil"}, {"(typep #1=#(#1#) t)", "t"}, {"(typep #1=#(#1#) atom)", "t"}, {"(typep 1 #1=(and . #1#))", "! SIMPLE-ERROR #0=(and . #0#)"}, {"(typep 1 #1=(or #2=integer bit))", "t"},
		{"(subtypep bit integer)", "t t"}, {"(subtypep integer bit)", "nil t"}, {"(subtypep nothing nope)", "! SIMPLE-ERROR nothing"}, {"(subtypep bit nope)", "! SIMPLE-ERROR nope"},
		{"(funcall car (1))", "1"}, {"(funcall nosuch 1)", "! UNDEFINED-FUNCTION nosuch"}, {"(funcall 5)", "! TYPE-ERROR 5 function"}, {"(funcall)", "! PROGRAM-ERROR funcall"}, {"(funcall funcall funcall list 1 2)", "(1 2)"}, {"(funcall car 5)", "! TYPE-ERROR 5 list"}, {"(funcall car)", "! PROGRAM-ERROR car"},
		{"(apply + 1 (2 2))", "5"}, {"(apply + nil)", "0"}, {"(apply +)", "! PROGRAM-ERROR apply"}, {"(apply + 5)", "! TYPE-ERROR 5 list"}, {"(apply + 1 (2 . 3))", "! TYPE-ERROR (2 . 3) list"}, {"(apply nosuch 5)", "! UNDEFINED-FUNCTION nosuch"}, {"(apply apply (list (1 2)))", "(1 2)"}, {"(apply #1=(apply #1#))", "! PROGRAM-ERROR apply"}, {"(apply apply #1=(apply #1#))", "limit 12"}, {"(apply funcall (apply list 1 (2)))", "(1 2)"},
		{"(values)", ""}, {"(values 1 2)", "1 2"}, {"(identity x)", "x"}, {"(identity)", "! PROGRAM-ERROR identity"},
	})
	closure, _ := w.Heap().New(heap.KindClosure, 2)
	code, _ := w.Heap().New(heap.KindCode, 3)
	f := symbol(t, w, "COMMON-LISP-USER", "F")
	for _, x := range []heap.Word{closure, code} {
		fails(t, "SetFunction", w.SetFunction(f, x), api.OK)
		for _, a := range []lib.Answer{
			w.Call(x, []heap.Word{fix(5)}), w.Call(f, []heap.Word{fix(5)}), answer(t, w, "FUNCALL", x, fix(5)), answer(t, w, "FUNCALL", f, fix(5)),
			answer(t, w, "APPLY", x, object(t, w, "(5)")), answer(t, w, "APPLY", f, fix(5), heap.Nil), answer(t, w, "FUNCALL", symbol(t, w, "COMMON-LISP", "APPLY"), x, object(t, w, "(5)")),
		} {
			equal(t, "a call of a closure", a, lib.Answer{Kind: lib.AnswerNext, Function: x, Values: []heap.Word{fix(5)}})
		}
		equal(t, "%FSET of a closure", answered(w, answer(t, w, "%FSET", f, x)), "%::closure")
	}
	fails(t, "SetFunction", w.SetFunction(f, fix(5)), api.OK)
	equal(t, "a function that is none", answered(w, w.Call(f, nil)), "! TYPE-ERROR 5 function")
	equal(t, "by FUNCALL", answered(w, answer(t, w, "FUNCALL", f)), "> 5")
	fails(t, "SetFunction", w.SetFunction(f, f), api.OK)
	equal(t, "a function that is its own symbol", answered(w, w.Call(f, nil)), "! TYPE-ERROR f function")
	for _, x := range []heap.Word{0, heap.Unbound, heap.Word(97<<3 | 1), object(t, w, "\"a\""), object(t, w, "(1)")} {
		equal(t, "what is no function", answered(w, w.Call(x, nil)), "! TYPE-ERROR "+text(w, x)+" function")
	}
	forged, _ := w.Heap().New(heap.KindBuiltin, 1)
	w.Heap().Set(forged, 0, fix(100000))
	equal(t, "a builtin function that there is not", answered(w, w.Call(forged, nil)), "! TYPE-ERROR %::builtin function")
	for _, bad := range []heap.Word{4, 10, heap.Word(1<<40 | 3), heap.Word(55296<<3 | 1)} {
		equal(t, "a bad function", answered(w, w.Call(bad, nil)), "limit 170")
		equal(t, "a bad argument", answered(w, answer(t, w, "CAR", heap.Nil, bad)), "limit 170")
	}
}

// P20.1: printing and reading.
func TestPrinting(t *testing.T) {
	w := newWorld(t)
	calls(t, w, []line{
		{"(prin1 \"a\\\"b\")", "\"a\\\"b\""}, {"(princ \"a\")", "\"a\""}, {"(print (x :k #\\a))", "(x :k #\\a)"}, {"(terpri)", "nil"}, {"(write-string \"|~%\")", "\"|~%\""}, {"(write-string x)", "! TYPE-ERROR x string"}, {"(prin1 #1=(1 . #1#))", "#0=(1 . #0#)"}, {"(princ |a b|)", "|a b|"}, {"(format t \"~a-~s\" x \"y\")", "nil"}, {"(format 5 \"!\")", "nil"},
	})
	equal(t, "the output", w.Output(), "\"a\\\"b\"a\n(x :k #\\a) \n|~%#0=(1 . #0#)a bx-\"y\"!")
	calls(t, w, []line{
		{"(prin1-to-string \"a\")", "\"\\\"a\\\"\""}, {"(princ-to-string \"a\")", "\"a\""}, {"(prin1-to-string (car . x))", "\"(car . x)\""}, {"(prin1-to-string #:x)", "\"#:x\""}, {"(format nil \"~R\" 1045)", "\"one thousand forty-five\""}, {"(format nil \"~{~a,~}\" (1 2))", "\"1,2,\""}, {"(format nil \"~a\")", "! SIMPLE-ERROR \"~a\""}, {"(format nil \"~q\")", "! SIMPLE-ERROR \"~q\""}, {"(format nil x)", "! TYPE-ERROR x string"}, {"(format nil \"~d\" x)", "\"x\""},
		{"(read-from-string \"(1 . 2)\")", "(1 . 2)"}, {"(read-from-string \"car\")", "car"}, {"(read-from-string \" foo ;\")", "foo"}, {"(read-from-string \"#1=(a . #1#)\")", "#0=(a . #0#)"}, {"(read-from-string \"\")", "! PARSE-ERROR \"\""}, {"(read-from-string \"1 2\")", "! PARSE-ERROR \"1 2\""}, {"(read-from-string \"(\")", "! PARSE-ERROR \"(\""}, {"(read-from-string \"nowhere:x\")", "! PARSE-ERROR \"nowhere:x\""}, {"(read-from-string \"`x\")", "! PARSE-ERROR \"`x\""}, {"(read-from-string x)", "! TYPE-ERROR x string"},
	})
	// what has no form is printed as the symbol %::OBJECT
	long := heap.Nil
	for range 3000 {
		long = cons(w, fix(1), long)
	}
	equal(t, "a list that is too long", answered(w, answer(t, w, "PRIN1-TO-STRING", long)), "\"%::object\"")
	equal(t, "a type of it", answered(w, answer(t, w, "TYPEP", long, symbol(t, w, "COMMON-LISP", "CONS"))), "nil")
	equal(t, "FORMAT of it", answered(w, answer(t, w, "FORMAT", heap.Nil, object(t, w, "\"~s\""), long)), "\"%::object\"")
	table := answer(t, w, "MAKE-HASH-TABLE", symbol(t, w, "COMMON-LISP", "EQ")).Values[0]
	equal(t, "a table", answered(w, answer(t, w, "PRIN1-TO-STRING", table)), "\"%::table\"")
	equal(t, "the type of a table", answered(w, answer(t, w, "TYPEP", table, symbol(t, w, "COMMON-LISP", "HASH-TABLE"))), "t")
	equal(t, "the type of a closure", answered(w, answer(t, w, "TYPEP", mustNew(w, heap.KindCode), symbol(t, w, "COMMON-LISP", "FUNCTION"))), "t")
	huge, _ := w.Build(api.Form{Kind: api.FormString, Text: strings.Repeat("x", 100001)})
	for _, name := range []string{"PRIN1", "PRINC", "PRINT", "PRIN1-TO-STRING", "PRINC-TO-STRING"} {
		equal(t, name+" of a text that is too long", answer(t, w, name, huge), lib.Answer{Kind: lib.AnswerFault, Fault: lib.Fault{Type: "SIMPLE-ERROR", Data: []heap.Word{huge}}})
	}
	// no room in the output
	chars := object(t, w, "\""+strings.Repeat("x", 1000)+"\"")
	for len(w.Output())+1000 <= api.MaxOutput {
		equal(t, "WRITE-STRING", answer(t, w, "WRITE-STRING", chars).Kind, lib.AnswerValues)
	}
	before := w.Output()
	for _, name := range []string{"WRITE-STRING", "PRIN1", "PRINC", "PRINT"} {
		equal(t, name, answered(w, answer(t, w, name, chars)), "limit 14")
	}
	equal(t, "FORMAT", answered(w, answer(t, w, "FORMAT", fix(1), chars)), "limit 14")
	equal(t, "the output behind it", w.Output(), before)
	fails(t, "Print", w.Print(strings.Repeat("x", api.MaxOutput-len(before))), api.OK)
	fails(t, "Print", w.Print("x"), api.ErrLarge)
	fails(t, "Print of nothing", w.Print(""), api.OK)
	equal(t, "TERPRI", answered(w, answer(t, w, "TERPRI")), "limit 14")
	// a string that is printed too long
	many := object(t, w, "("+strings.Repeat("\"0123456789\" ", 300)+")")
	for range 5 {
		many = cons(w, many, cons(w, many, heap.Nil))
	}
	equal(t, "PRIN1 of much", answered(w, answer(t, w, "PRIN1", many)), "limit 14")
}

// mustNew makes an object without fields.
func mustNew(w *lib.World, kind int) heap.Word {
	x, _ := w.Heap().New(kind, 0)
	return x
}

// P20.1: objects that look like numbers, but are none of layer 5.
func TestNoNumbers(t *testing.T) {
	w := newWorld(t)
	x, e := w.Build(api.Form{Kind: api.FormRatio, Text: "2000000000000000000000/4000000000000000000000"})
	fails(t, "Build", e, api.OK)
	for _, name := range []string{"+", "-", "=", "<", "MAX", "FLOOR", "ABS", "NUMERATOR", "FLOAT"} {
		args := []heap.Word{x, fix(1)}
		if name == "ABS" || name == "NUMERATOR" {
			args = args[:1]
		}
		equal(t, name, answered(w, answer(t, w, name, args...)), "! ARITHMETIC-ERROR")
	}
	equal(t, "its type", answered(w, answer(t, w, "TYPEP", x, symbol(t, w, "COMMON-LISP", "RATIONAL"))), "nil")
	equal(t, "T", answered(w, answer(t, w, "TYPEP", x, symbol(t, w, "COMMON-LISP", "T"))), "t")
	equal(t, "EQL", answered(w, answer(t, w, "EQL", x, x)), "t")
}

// P20.1: what would be larger than any object can be has no room.
func TestLargeObjects(t *testing.T) {
	w := newWorld(t)
	x, _ := w.Build(api.Form{Kind: api.FormString, Text: strings.Repeat("x", 60000)})
	equal(t, "CONCAT of two", len(answer(t, w, "CONCAT", x, x).Values), 1)
	equal(t, "CONCAT of three", answered(w, answer(t, w, "CONCAT", x, x, x)), "limit 11")
	equal(t, "VECTOR", answered(w, answer(t, w, "VECTOR", make([]heap.Word, 16385)...)), "limit 11")
	equal(t, "VECTOR of one less", len(answer(t, w, "VECTOR", make([]heap.Word, 16384)...).Values), 1)
}

// P20.1: a symbol that a fault needs, and that the table has no room for, is a limit.
func TestFullFault(t *testing.T) {
	w := newWorld(t)
	n, _, _ := w.Symbols().Find("COMMON-LISP", "LIST")
	car := symbol(t, w, "COMMON-LISP", "CAR")
	if done, e := w.Symbols().Unintern("COMMON-LISP", n); !done || e != api.OK {
		t.Error("Unintern", done, e)
	}
	for {
		if _, e := w.Symbols().Fresh("X"); e != api.OK {
			break
		}
	}
	equal(t, "CAR", answered(w, w.Call(car, []heap.Word{fix(5)})), "limit 9")
}

// P20.1, P20.6: the last symbol that a table has room for.
func TestLastSymbol(t *testing.T) {
	for _, c := range []struct{ call, want string }{{"(gensym)", "#:g0"}, {"(make-symbol \"A\")", "#:a"}, {"(intern \"NEWER\")", "newer nil"}, {"(read-from-string \"newer\")", "newer"}} {
		w := newWorld(t)
		object(t, w, c.call)
		n := 0
		for w.Symbols() != nil {
			if _, _, e := w.Symbols().Symbol(n); e != api.OK {
				break
			}
			n++
		}
		for ; n < api.MaxSymbols-1; n++ {
			w.Symbols().Fresh("X")
		}
		equal(t, c.call, called(t, w, c.call), c.want)
		if got := called(t, w, c.call); !strings.HasPrefix(got, "! PACKAGE-ERROR") && c.call[1] != 'i' && c.call[1] != 'r' {
			t.Errorf("%s in a full table: %s", c.call, got)
		}
	}
}

// P20.6: INTERN twice returns the same word; what is put is what is there then; what GENSYM and MAKE-SYMBOL return was not there.
func TestIdentity(t *testing.T) {
	w := newWorld(t)
	name, x := object(t, w, "\"SOME\""), object(t, w, "(1)")
	one := answer(t, w, "INTERN", name).Values[0]
	equal(t, "INTERN twice", answer(t, w, "INTERN", name).Values[0], one)
	equal(t, "FIND-SYMBOL", answer(t, w, "FIND-SYMBOL", name).Values[0], one)
	equal(t, "Symbol", symbol(t, w, "COMMON-LISP-USER", "SOME"), one)
	car, _ := w.Function(symbol(t, w, "COMMON-LISP", "CAR"))
	for _, c := range []struct {
		put, get string
		x        heap.Word
	}{{"SET", "SYMBOL-VALUE", x}, {"%FSET", "SYMBOL-FUNCTION", car}, {"%SET-PLIST", "SYMBOL-PLIST", x}} {
		equal(t, c.put, answer(t, w, c.put, one, c.x).Values, []heap.Word{c.x})
		equal(t, c.get, answer(t, w, c.get, one).Values, []heap.Word{c.x})
	}
	met := map[heap.Word]bool{}
	for _, y := range w.Heap().Objects() {
		met[y] = true
	}
	for _, call := range []string{"GENSYM", "GENSYM", "MAKE-SYMBOL", "MAKE-SYMBOL"} {
		args := []heap.Word{name}
		if y := answer(t, w, call, args...).Values[0]; met[y] {
			t.Errorf("%s returned what was there", call)
		} else {
			met[y] = true
		}
	}
	equal(t, "the strings of SYMBOL-NAME", answer(t, w, "SYMBOL-NAME", one).Values[0] == answer(t, w, "SYMBOL-NAME", one).Values[0], false)
	equal(t, "STRING of a string", answer(t, w, "STRING", name).Values[0], name)
	for _, c := range []struct {
		name string
		same bool
	}{{"MAX", true}, {"MIN", true}, {"IDENTITY", true}, {"FLOAT", true}} {
		y := object(t, w, "1.5")
		equal(t, c.name, answer(t, w, c.name, y).Values[0] == y, c.same)
	}
}
