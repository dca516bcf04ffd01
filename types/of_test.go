package types_test

import (
	"fmt"
	"math/rand"
	"strings"
	"testing"

	"commonform/api"
	"commonform/forms"
	"commonform/types"
)

// P14.1: Of by the words of the chapter.
func TestOf(t *testing.T) {
	long := strings.Repeat("7", 200)
	for x, want := range map[string]string{
		"NIL": "(EQL NIL)", "T": "(EQL T)", ":A": "(EQL :A)", "#:X": "SYMBOL", "1": "(EQL 1)", "-1/2": "(EQL -1/2)", "1.0": "(EQL 1.0)", "1.0d0": "(EQL 1.0d0)", "#C(1 2)": "(EQL #C(1 2))", "#\\a": "(EQL #\\a)", long: "(EQL " + long + ")", long + "7": "T",
		"\"\"": "(STRING 0)", "\"éa\"": "(STRING 2)", "\"" + strings.Repeat("a", 50) + "\"": "(STRING 50)", "\"" + strings.Repeat("a", 51) + "\"": "STRING", "#*": "(BIT-VECTOR 0)", "#*01": "(BIT-VECTOR 2)", "#*" + strings.Repeat("0", 51): "BIT-VECTOR", "#(1 2)": "(SIMPLE-VECTOR 2)", "#(" + strings.Repeat("1 ", 51) + ")": "SIMPLE-VECTOR",
		"#0A1": "(ARRAY * NIL)", "#2A((1 2))": "(ARRAY * (1 2))", "#2A((1 2 3 4 5))": "ARRAY", "#2A((1 2 3 4))": "(ARRAY * (1 4))", "#4A((((1))))": "(ARRAY * (1 1 1 1))", "#5A(((((1)))))": "ARRAY",
		"(1)": "(CONS (EQL 1) (EQL NIL))", "(1 2)": "(CONS (EQL 1) (CONS (EQL 2) (EQL NIL)))", "(1 . 2)": "(CONS (EQL 1) (EQL 2))", "((1) #() . \"a\")": "(CONS (CONS (EQL 1) (EQL NIL)) (CONS (SIMPLE-VECTOR 0) (STRING 1)))",
		"(1 2 3 4)":                    "(CONS (EQL 1) (CONS (EQL 2) (CONS (EQL 3) (CONS (EQL 4) (EQL NIL)))))",
		"(1 2 3 4 5)":                  "(CONS (EQL 1) (CONS (EQL 2) (CONS (EQL 3) (CONS (EQL 4) CONS))))",
		"(((((1)))))":                  "(CONS (CONS (CONS (CONS CONS (EQL NIL)) (EQL NIL)) (EQL NIL)) (EQL NIL))",
		"(" + long + "7 . 1)":          "T",
		"(#:X . (#:Y . " + long + "))": "(CONS SYMBOL (CONS SYMBOL (EQL " + long + ")))",
	} {
		got, e := types.Of(lisp(x))
		equal(t, "Of "+short(x), []any{text(got), e}, []any{text(lisp(want)), 0})
	}
	for name, want := range map[string]string{"BUILTIN": "FUNCTION", "CLOSURE": "FUNCTION", "TABLE": "HASH-TABLE", "STREAM": "ATOM", "": "ATOM"} {
		got, e := types.Of(forms.Symbol("%", name))
		equal(t, "Of "+name, []any{got, e}, []any{lisp(want), 0})
	}
	// a tree of 16 leaves has a type of 109 nodes, one of 14 leaves one of 95
	tree := lisp("1")
	for range 4 {
		tree = forms.Dotted([]api.Form{tree}, tree)
	}
	got, e := types.Of(tree)
	equal(t, "Of a tree", []any{got, e}, []any{lisp("T"), 0})
	pruned := lisp("((((1 . 1) 1 . 1) (1 . 1) 1 . 1) ((1 . 1) 1 . 1) 1 . 1)")
	got, e = types.Of(pruned)
	if nodes, _ := forms.Size(got); e != api.OK || nodes < 90 || nodes > 100 {
		t.Errorf("Of a smaller tree: %d nodes, %v", nodes, e)
	}
}

// P14.4: an object is of its type; and if this is (EQL x), x is of what the object is of.
func TestOfTyped(t *testing.T) {
	l := objects()
	for _, x := range l {
		of, e := types.Of(x)
		if e != api.OK || types.Check(of) != api.OK || !is(x, of) || !typep(t, x, of) {
			t.Errorf("Of %s = %s, %v", text(x), text(of), e)
		}
	}
	r := rand.New(rand.NewSource(146))
	for range 400 {
		x, b := l[r.Intn(len(l))], someType(r, 2, 2)
		of, _ := types.Of(x)
		if yes, _, _ := types.Subtypep(of, b); yes && !is(x, b) {
			t.Errorf("%s is of %s, and that is a part of %s", text(x), text(of), text(b))
		}
		if strings.HasPrefix(fmt.Sprint(text(of)), fmt.Sprint(api.FormCons)+"(COMMON-LISP:EQL") {
			if yes, _, _ := types.Subtypep(of, b); yes != is(x, b) {
				t.Errorf("%s is a part of %s: %v", text(of), text(b), yes)
			}
		}
	}
}

// P14.6: each object is of one type of some, or of none.
func TestNames(t *testing.T) {
	names := strings.Fields("CONS SYMBOL INTEGER RATIO SINGLE-FLOAT DOUBLE-FLOAT COMPLEX CHARACTER ARRAY FUNCTION HASH-TABLE")
	for _, x := range objects() {
		n := 0
		for _, name := range names {
			if typep(t, x, lisp(name)) {
				n++
			}
		}
		other := x.Home == "%" && x.Text != "BUILTIN" && x.Text != "CLOSURE" && x.Text != "TABLE"
		if other && n != 0 || !other && n != 1 {
			t.Errorf("%s is of %d types", text(x), n)
		}
	}
	for i, a := range names {
		for _, b := range names[:i] {
			if empty, x, _ := types.Empty(lisp("(AND " + a + " " + b + ")")); !empty {
				t.Errorf("%s is of %s and %s", text(x), a, b)
			}
		}
	}
}
