package macro_test

import (
	"fmt"

	"commonform/api"
	"commonform/core"
	"commonform/lib"
	"commonform/loop"
	"commonform/macro"
	"commonform/meaning"
	"commonform/place"
	"commonform/reader"
)

// The sixth example of README.md.
func Example() {
	table := macro.New()
	table.Expanders = []macro.Named{
		{Name: "LOOP", Expand: loop.Macro},
		{Name: "INCF", Expand: func(f api.Form, fresh int) (api.Form, int, api.Errno) {
			return place.Macro(place.Standard(), f, fresh)
		}},
	}

	w, _ := lib.New(65536, 1000)
	in := reader.Standard("COMMON-LISP")
	definition, _, _ := reader.One(in, "(defmacro square (x) `(let ((y ,x)) (* y y)))")
	table, fresh, is, end := macro.Define(w, table, definition.Form, 0)
	fmt.Println(is, end.Kind == lib.EndValues)

	program, _, _ := reader.One(in, "(loop for i from 1 to 3 sum (square i))")
	expanded, fresh, end := macro.All(w, table, program.Form, fresh)
	tree, _ := core.Convert(expanded, table.Specials)
	end, _ = meaning.Run(w, tree, 1000)
	sum, _ := end.Values[0].Fixnum()
	fmt.Println(sum)

	write, _, _ := reader.One(in, "(incf (car x))")
	once, _, is, _ := macro.Once(table, write.Form, fresh)
	fmt.Println(text(once) == fmt.Sprintf("(let* ((%%%d x) (%%%d (+ (car %%%d) 1))) (progn (rplaca %%%d %%%d) %%%d))", fresh, fresh+1, fresh, fresh, fresh+1, fresh+1), is)
	// Output:
	// true true
	// 14
	// true true
}
