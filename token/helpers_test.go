package token_test

import (
	"fmt"
	"math/rand"
	"slices"
	"testing"

	"commonform/api"
	"commonform/token"
)

// must returns the first result of a call without an error.
func must[T any](t *testing.T) func(x T, e api.Errno) T {
	return func(x T, e api.Errno) T {
		t.Helper()
		if e != api.OK {
			t.Errorf("an error: %v", e)
		}
		return x
	}
}

func sameTable(a, b token.Table) bool { return a.Case == b.Case && slices.Equal(a.Entries, b.Entries) }

func sameToken(a, b token.Token) bool {
	return slices.Equal(a.Chars, b.Chars) && slices.Equal(a.Escaped, b.Escaped) && a.Escapes == b.Escapes
}

func emptyToken(x token.Token) bool { return len(x.Chars) == 0 && len(x.Escaped) == 0 && !x.Escapes }

// next reads a token that has no error.
func next(t *testing.T, table token.Table, s string) token.Token {
	t.Helper()
	x, _, e := token.Next(table, s, 0)
	if e != api.OK {
		t.Fatalf("Next(%v, %q): %v", table, s, e)
	}
	return x
}

// anyTable returns a random readtable; some have neither bars nor backslashes.
func anyTable(r *rand.Rand) token.Table {
	chars := []rune("aAfFzZ01.:+-/#\\|\"'(), ;`\t\n\x00\x01\x7f$!@_^é☺")
	t := token.Table{Case: r.Intn(4)}
	for range r.Intn(7) {
		t, _ = token.Set(t, chars[r.Intn(len(chars))], r.Intn(7))
	}
	return t
}

// anyText returns a random text of characters that matter.
func anyText(r *rand.Rand, n int) string {
	parts := []string{"a", "b", "e", "f", "z", "A", "B", "F", "0", "1", "9", ".", ":", "+", "-", "/", "^", "_", "#", "\\", "|", "\"", "(", ")", " ", "\n", "\x01", "$", "!", "é", "☺"}
	s := ""
	for range r.Intn(n) {
		s += parts[r.Intn(len(parts))]
	}
	return s
}

// full returns a readtable with so many entries.
func full(n int) token.Table {
	t := token.Table{}
	for i := range n {
		t.Entries = append(t.Entries, token.Entry{Char: rune(1000 + i), Kind: token.White})
	}
	return t
}

// short returns the beginning of the text of a value.
func short(x any) string { return fmt.Sprintf("%.200s", fmt.Sprint(x)) }
