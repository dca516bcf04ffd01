package number_test

import (
	"fmt"

	"commonform/api"
	"commonform/forms"
	"commonform/number"
)

// The example of README.md.
func Example() {
	half, _ := number.Read("1/2", 10, false)
	sum, code := number.Add(half, half)
	text, _ := number.Print(sum, 2, true, false)
	list := forms.List([]api.Form{half, sum})
	fmt.Println(text, code, forms.Check(list))
	// Output: #b1 0 0
}
