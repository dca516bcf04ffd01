package array_test

import (
	"fmt"
	"strconv"
	"testing"

	"commonform/api"
	"commonform/array"
	"commonform/forms"
)

func whole(n int) api.Form { return api.Form{Kind: api.FormInt, Text: strconv.Itoa(n)} }

func wholes(l ...int) []api.Form {
	var out []api.Form
	for _, n := range l {
		out = append(out, whole(n))
	}
	return out
}

func symbol(name string) api.Form { return forms.Symbol("USER", name) }

// plain is an array with elements of its own.
func plain(fill int, dims ...int) array.Array {
	return array.Array{Dims: dims, Fill: fill, Adjustable: true, Target: -1}
}

// bits is a bit array.
func bits(dims ...int) array.Array {
	return array.Array{Dims: dims, Fill: -1, Adjustable: true, Target: -1, Bits: true}
}

// displaced is an array that shows elements of another one.
func displaced(target, offset int, dims ...int) array.Array {
	return array.Array{Dims: dims, Fill: -1, Adjustable: true, Target: target, Offset: offset}
}

// made makes an array in a room.
func made(t *testing.T, r *array.Room, a array.Array, initial api.Form) int {
	t.Helper()
	n, e := r.Make(a, initial)
	if e != api.OK {
		t.Fatalf("Make(%v): %v", a, e)
	}
	return n
}

// counted makes an array whose elements are their indices.
func counted(t *testing.T, r *array.Room, a array.Array) int {
	t.Helper()
	n := made(t, r, a, whole(0))
	total, _ := r.Total(n)
	for i := range total {
		fails(t, "Set", r.Set(n, i, whole(i)), api.OK)
	}
	return n
}

func fails(t *testing.T, what string, got, want api.Errno) {
	t.Helper()
	if got != want {
		t.Errorf("%s: %v; want %v", what, got, want)
	}
}

// short returns what of a value is worth to be printed.
func short(x any) string { return fmt.Sprintf("%.200s", fmt.Sprint(x)) }

func equal(t *testing.T, what string, got, want any) {
	t.Helper()
	if fmt.Sprint(got) != fmt.Sprint(want) {
		t.Errorf("%s = %s; want %s", what, short(got), short(want))
	}
}

// contents checks the Contents of an array.
func contents(t *testing.T, r *array.Room, a int, want []api.Form) {
	t.Helper()
	l, e := r.Contents(a)
	if e != api.OK || fmt.Sprint(l) != fmt.Sprint(want) {
		t.Errorf("Contents(%d) = %s, %v; want %s", a, short(l), e, short(want))
	}
}
