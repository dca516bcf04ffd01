package sequence_test

import (
	"fmt"
	"math/rand"
	"strconv"
	"strings"
	"testing"

	"commonform/api"
	"commonform/number"
	"commonform/sequence"
)

func num(s string) api.Form {
	x, e := number.Read(s, 10, false)
	if e != api.OK {
		panic(s)
	}
	return x
}

func nums(text string) []api.Form {
	var l []api.Form
	for _, s := range strings.Fields(text) {
		l = append(l, num(s))
	}
	return l
}

func char(s string) api.Form { return api.Form{Kind: api.FormChar, Text: s} }

func str(s string) api.Form { return api.Form{Kind: api.FormString, Text: s} }

func cons(kids ...api.Form) api.Form { return api.Form{Kind: api.FormCons, Kids: kids} }

func vector(kids ...api.Form) api.Form { return api.Form{Kind: api.FormVector, Kids: kids} }

func none() api.Form { return api.Form{Kind: api.FormSymbol, Text: "NIL", Home: "COMMON-LISP"} }

func list(l ...api.Form) api.Form { return cons(append(append([]api.Form{}, l...), none())...) }

// all are the options with which all elements are looked at.
func all() sequence.Options { return sequence.Options{End: -1, Count: -1} }

func fails(t *testing.T, what string, got, want api.Errno) {
	t.Helper()
	if got != want {
		t.Errorf("%s: %v; want %v", what, got, want)
	}
}

func short(x any) string { return fmt.Sprintf("%.300s", fmt.Sprint(x)) }

func equal(t *testing.T, what string, got, want any) {
	t.Helper()
	if fmt.Sprint(got) != fmt.Sprint(want) {
		t.Errorf("%s = %s; want %s", what, short(got), short(want))
	}
}

// texts returns the texts of a result, or its code.
func texts(l []api.Form, e api.Errno) string {
	if e != api.OK {
		return fmt.Sprintf("!%d%v", int(e), l)
	}
	var words []string
	for _, x := range l {
		words = append(words, text(x))
	}
	return strings.Join(words, " ")
}

func text(x api.Form) string {
	if len(x.Kids) == 0 {
		return x.Text
	}
	return "(" + texts(x.Kids, api.OK) + ")"
}

// elements returns elements of which several are alike in one way or the other, or by a key.
func elements() []api.Form {
	half, one := num("0.5"), num("1")
	odd := []api.Form{
		{}, {Kind: -7, Text: "1"}, {Kind: api.FormInt, Text: "01"}, {Kind: api.FormInt, Text: "1", Home: "X"}, {Kind: api.FormSingle, Text: "7f800000"},
		{Kind: api.FormChar, Text: "a", Home: "X"}, {Kind: api.FormString, Text: "ab", Kids: []api.Form{one}}, {Kind: api.FormCons}, {Kind: api.FormCons, Kids: []api.Form{one}},
		{Kind: api.FormCons, Text: "x", Kids: []api.Form{one, none()}}, {Kind: api.FormCons, Kids: []api.Form{cons(one, none())}}, {Kind: api.FormSymbol, Text: "AB"}, {Kind: api.FormSymbol, Text: "ab"},
		{Kind: api.FormArray, Kids: []api.Form{one}}, {Kind: api.FormArray, Kids: []api.Form{num("1.0")}}, {Kind: api.FormBits, Text: "01"},
		{Kind: api.FormCons, Kids: []api.Form{one, {Kind: api.FormCons, Kids: []api.Form{half}}}}, {Kind: api.FormCons, Kids: []api.Form{one, {Kind: api.FormCons}}},
	}
	return append(odd, nums("0 1 2 1/2 0.5 1.0 0.0 -0.0 0.5d0 1d0 -3")...,
	)
}

// more returns elements whose keys can be taken.
func more() []api.Form {
	l := []api.Form{
		char("a"), char("A"), char("é"), char("É"), char("["), char("{"), str("ab"), str("Ab"), str("AB"), str("abc"), str("k"), str("\u212a"), str("Az"), str("aZ"), str(""), vector(), vector(num("1")), vector(num("1.0")), vector(num("1"), str("x")), vector(num("1"), str("X")),
		list(num("1"), char("a")), list(num("1.0"), char("A")), list(num("2")), cons(num("1"), num("2")), list(str("x"), num("3")), list(str("X"), num("3")), cons(num("1"), vector(num("1"))),
	}
	for _, re := range nums("1.0 0.5 2.0") {
		for _, im := range nums("0.0 -0.0 1.0") {
			l = append(l, api.Form{Kind: api.FormComplex, Kids: []api.Form{re, im}})
		}
	}
	return append(l, api.Form{Kind: api.FormComplex, Kids: nums("1 1")}, api.Form{Kind: api.FormComplex, Kids: nums("1d0 1d0")})
}

// anyElement returns an element of some sort, so that a key fits to most of a sequence.
func anyElement(r *rand.Rand, sort int) api.Form {
	switch sort {
	case 0:
		return num(strconv.Itoa(r.Intn(4)))
	case 1:
		return num([]string{"1", "1.0", "1/2", "0.5", "2"}[r.Intn(5)])
	case 2:
		return list(num(strconv.Itoa(r.Intn(3))), char(string(rune('a'+r.Intn(3)))))
	case 3:
		return str([]string{"ab", "AB", "b", "", "abc"}[r.Intn(5)])
	case 4:
		return char(string(rune('A' + r.Intn(2) + 32*r.Intn(2))))
	}
	l := append(elements(), more()...)
	return l[r.Intn(len(l))]
}

func anyElements(r *rand.Rand, sort, most int) []api.Form {
	var l []api.Form
	for range r.Intn(most + 1) {
		l = append(l, anyElement(r, sort))
	}
	return l
}

func anyOptions(r *rand.Rand, n int) sequence.Options {
	o := sequence.Options{Start: r.Intn(n + 1), End: -1, Count: r.Intn(4) - 1, FromEnd: r.Intn(2) == 0, Not: r.Intn(3) == 0, Test: r.Intn(2), Key: r.Intn(4)}
	if r.Intn(2) == 0 {
		o.Start = 0
	}
	if r.Intn(2) == 0 {
		o.End = o.Start + r.Intn(n-o.Start+1)
	}
	if r.Intn(2) == 0 {
		o.Key = 0
	}
	switch r.Intn(40) {
	case 0:
		o.Start = r.Intn(2*n+4) - n - 1
	case 1:
		o.End = r.Intn(2*n+4) - n - 2
	case 2:
		o.Count = -2
	case 3:
		o.Test = 2 - 3*r.Intn(2)
	case 4:
		o.Key = 4 - 5*r.Intn(2)
	}
	return o
}
