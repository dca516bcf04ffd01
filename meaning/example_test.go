package meaning_test

import (
	"fmt"

	"commonform/api"
	"commonform/core"
	"commonform/forms"
	"commonform/lambda"
	"commonform/lib"
	"commonform/meaning"
)

// The fifth example of README.md.
func Example() {
	integer := func(s string) api.Form { return api.Form{Kind: api.FormInt, Text: s} }
	x := forms.Symbol("COMMON-LISP-USER", "X")
	square := forms.Call("*", []api.Form{x, x})
	binding := forms.List([]api.Form{x, integer("5")})
	let := forms.Call("LET", []api.Form{forms.List([]api.Form{binding}), forms.Call("CONS", []api.Form{x, square})})

	tree, code := core.Convert(let, nil)
	text, _ := core.Show(tree)
	fmt.Println(text, code)

	w, _ := lib.New(65536, 1000)
	end, steps := meaning.Run(w, tree, 1000)
	pair, _ := w.Show(end.Values[0])
	fmt.Println(end.Kind == lib.EndValues, steps, pair.Kids[0].Text, pair.Kids[1].Text)

	car, _ := w.Symbol("COMMON-LISP", "CAR")
	answer := w.Call(car, end.Values)
	answer = w.Call(car, answer.Values)
	fmt.Println(answer.Kind == lib.AnswerFault, answer.Fault.Type)

	list, _ := lambda.Parse(forms.List([]api.Form{x, forms.Symbol("COMMON-LISP", "&REST"), forms.Symbol("COMMON-LISP-USER", "MORE")}), false)
	bindings, _ := lambda.Match(list, []api.Form{integer("1"), integer("2")})
	for _, b := range bindings {
		fmt.Println(b.Var.Text, b.Value.Kind, b.Missing)
	}
	// Output:
	// (let [0] (const 2::5) (callglobal 1:COMMON-LISP:CONS (var 0) (callglobal 1:COMMON-LISP:* (var 0) (var 0)))) 0
	// true 9 5 25
	// true TYPE-ERROR
	// X 2 false
	// MORE 10 false
}
