package pretty_test

import (
	"fmt"

	"commonform/pretty"
	"commonform/printer"
	"commonform/reader"
	"commonform/symbols"
)

// The second example of README.md.
func Example() {
	in := reader.Standard("USER")
	in.Features = []string{"SMALL"}
	read, at, code := reader.One(in, "(list #+small 'a #-small b #1=(1.50 . #1#))")
	fmt.Println(at, code, read.From, read.To)

	out := printer.Readably(printer.Standard("USER"))
	text, _ := printer.Print(out, read.Form)
	fmt.Println(text)
	lines, _ := pretty.Print(out, read.Form, 20, 0)
	fmt.Println(lines)

	table := symbols.New()
	n, status, _ := table.Intern("CL-USER", "A")
	fmt.Println(n, status == symbols.None)
	// Output:
	// 0 0 0 43
	// (list 'a #0=(1.5 . #0#))
	// (list 'a
	//       #0=(1.5
	//           . #0#))
	// 0 true
}
