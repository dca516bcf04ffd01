package types_test

import (
	"fmt"

	"commonform/api"
	"commonform/array"
	"commonform/format"
	"commonform/forms"
	"commonform/sequence"
	"commonform/types"
)

func integer(s string) api.Form { return api.Form{Kind: api.FormInt, Text: s} }

// The third example of README.md.
func Example() {
	one, two := integer("1"), integer("2")

	room := array.NewRoom()
	a, _ := room.Make(array.Array{Dims: []int{2, 3}, Fill: -1, Target: -1}, one)
	b, _ := room.Make(array.Array{Dims: []int{3}, Fill: -1, Target: a, Offset: 2}, api.Form{})
	code := room.Set(b, 0, two)
	contents, _ := room.Contents(a)

	n, _ := sequence.Count(one, contents, sequence.Options{End: -1})
	text, _ := format.Format("~R one~:P in ~{~A~^, ~}", []api.Form{integer("5"), forms.List(contents)})

	low, high := forms.Call("INTEGER", []api.Form{one, two}), forms.Symbol("COMMON-LISP", "BIT")
	part, witness, _ := types.Subtypep(low, high)
	fmt.Println(code, n, part, witness.Text)
	fmt.Println(text)
	// Output:
	// 0 5 false 2
	// five ones in 1, 1, 2, 1, 1, 1
}
