package format_test

import (
	"fmt"
	"strings"
	"testing"

	"commonform/api"
	"commonform/format"
	"commonform/forms"
	"commonform/reader"
)

// args reads arguments, whose symbols are those of COMMON-LISP.
func args(s string) []api.Form {
	x, at, e := reader.One(reader.Standard("COMMON-LISP"), "("+s+")")
	if e != api.OK {
		panic(fmt.Sprint(s, at, e))
	}
	l, _ := forms.Items(x.Form)
	return l
}

func str(s string) api.Form { return api.Form{Kind: api.FormString, Text: s} }

func char(s string) api.Form { return api.Form{Kind: api.FormChar, Text: s} }

func whole(s string) api.Form { return api.Form{Kind: api.FormInt, Text: s} }

func fails(t *testing.T, what string, got, want api.Errno) {
	t.Helper()
	if got != want {
		t.Errorf("%.200s: %v; want %v", what, got, want)
	}
}

// puts checks an output, which is a code behind an exclamation mark if it is an error.
func puts(t *testing.T, what, got string, e api.Errno, want string) {
	t.Helper()
	if e != api.OK {
		got = fmt.Sprintf("!%d%s", int(e), got)
	}
	if got != want {
		t.Errorf("%.200s: %.300q; want %.300q", what, got, want)
	}
}

// formats checks an output of Format.
func formats(t *testing.T, control, arguments, want string) {
	t.Helper()
	s, e := format.Format(control, args(arguments))
	puts(t, fmt.Sprintf("%q of %s", control, arguments), s, e, want)
}

// row is a control string, its arguments, and the output.
type row struct{ control, args, want string }

func check(t *testing.T, rows []row) {
	t.Helper()
	for _, c := range rows {
		formats(t, c.control, c.args, c.want)
	}
}

func repeat(s string, n int) string { return strings.Repeat(s, n) }
