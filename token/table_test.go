package token_test

import (
	"math"
	"math/rand"
	"slices"
	"strings"
	"testing"

	"commonform/api"
	"commonform/token"
)

// P6.1: the error of a readtable, and the order of errors.
func TestCheck(t *testing.T) {
	entry := func(c rune, kind int) token.Entry { return token.Entry{Char: c, Kind: kind} }
	table := func(l ...token.Entry) token.Table { return token.Table{Entries: l} }
	many := full(token.MaxEntries + 1)
	many.Case = -1
	for _, c := range []struct {
		t    token.Table
		want api.Errno
	}{
		{token.Table{}, api.OK}, {token.Table{Case: token.Invert}, api.OK}, {full(token.MaxEntries), api.OK}, {table(entry('a', token.White), entry('b', token.Invalid)), api.OK}, {table(entry(0, token.White), entry(0xd7ff, token.Single), entry(0xe000, token.Single), entry(0x10ffff, token.Single)), api.OK},
		{token.Table{Case: -1}, api.ErrArg}, {token.Table{Case: 4}, api.ErrArg}, {token.Table{Case: math.MinInt}, api.ErrArg},
		{many, api.ErrSize}, {full(1000), api.ErrSize},
		{table(entry(-1, token.White)), api.ErrArg}, {table(entry(0xd800, token.White)), api.ErrArg}, {table(entry(0xdfff, token.White)), api.ErrArg}, {table(entry(0x110000, token.White)), api.ErrArg},
		{table(entry('a', -1)), api.ErrArg}, {table(entry('a', 7)), api.ErrArg}, {table(entry('a', token.Constituent)), api.ErrArg}, {table(entry('#', token.Nonterminating)), api.ErrArg}, {table(entry(0, token.Invalid)), api.ErrArg},
		{table(entry('b', token.White), entry('a', token.White)), api.ErrOrder}, {table(entry('b', token.White), entry('b', token.Single)), api.ErrOrder},
		// an element's errors come ahead of those of the next one, and ErrArg ahead of ErrOrder
		{table(entry('b', token.White), entry('a', token.White), entry('c', 9)), api.ErrOrder}, {table(entry('b', token.White), entry('a', 9)), api.ErrArg},
		{token.Table{Entries: []token.Entry{entry('b', token.White), entry('a', token.White)}, Case: 9}, api.ErrArg},
	} {
		if e := token.Check(c.t); e != c.want {
			t.Errorf("Check(%v) = %v; want %v", c.t, e, c.want)
		}
	}
}

// P6.1: the standard kinds.
func TestStandard(t *testing.T) {
	want := func(c rune) int {
		switch {
		case strings.ContainsRune("\x09\x0a\x0c\x0d\x20", c):
			return token.White
		case strings.ContainsRune("\"'(),;`", c):
			return token.Terminating
		case c == '#':
			return token.Nonterminating
		case c == '\\':
			return token.Single
		case c == '|':
			return token.Multiple
		case c < 32 || c == 127:
			return token.Invalid
		}
		return token.Constituent
	}
	for c := rune(0); c <= 0x10ffff; c++ {
		if c == 0xd800 {
			c = 0xe000
		}
		if got := token.Standard(c); got != want(c) {
			t.Fatalf("Standard(%q) = %d", c, got)
		}
	}
	for _, c := range []rune{-1, math.MinInt32, 0xd800, 0xdbff, 0xdfff, 0x110000, math.MaxInt32} {
		if got := token.Standard(c); got != token.Invalid {
			t.Errorf("Standard(%d) = %d", c, got)
		}
	}
}

// P6.1: the kind of a character in a readtable.
func TestKind(t *testing.T) {
	table := token.Table{Entries: []token.Entry{{Char: '!', Kind: token.White}, {Char: 'a', Kind: token.Multiple}, {Char: '|', Kind: token.Constituent}, {Char: 'é', Kind: token.Invalid}}}
	for c, want := range map[rune]int{'!': token.White, 'a': token.Multiple, '|': token.Constituent, 'é': token.Invalid, 'b': token.Constituent, 'A': token.Constituent, '#': token.Nonterminating, '\\': token.Single, 0: token.Invalid, 0x10ffff: token.Constituent} {
		if got, e := token.Kind(table, c); got != want || e != api.OK {
			t.Errorf("Kind(%q) = %d, %v; want %d", c, got, e, want)
		}
	}
	for _, c := range []rune{-1, 0xd800, 0x110000} {
		if got, e := token.Kind(table, c); got != 0 || e != api.ErrArg {
			t.Errorf("Kind(%d) = %d, %v", c, got, e)
		}
	}
	if got, e := token.Kind(full(65), -1); got != 0 || e != api.ErrSize {
		t.Errorf("Kind in a wrong readtable = %d, %v", got, e)
	}
}

// P6.1: other kinds, and the errors of Set.
func TestSet(t *testing.T) {
	big := full(token.MaxEntries)
	for _, c := range []struct {
		t    token.Table
		c    rune
		kind int
		want api.Errno
	}{
		{full(65), -1, 9, api.ErrSize}, {token.Table{Case: 7}, 'a', token.White, api.ErrArg}, {token.Table{}, -1, token.White, api.ErrArg}, {token.Table{}, 0xd800, token.White, api.ErrArg}, {token.Table{}, 0x110000, token.White, api.ErrArg}, {token.Table{}, 'a', -1, api.ErrArg}, {token.Table{}, 'a', 7, api.ErrArg},
		{big, 'a', token.White, api.ErrFull}, {big, 'a', 7, api.ErrArg}, {big, 2000, token.Single, api.ErrFull},
	} {
		if got, e := token.Set(c.t, c.c, c.kind); e != c.want || !sameTable(got, token.Table{}) {
			t.Errorf("Set(%v, %d, %d) = %v, %v; want %v", c.t, c.c, c.kind, got, e, c.want)
		}
	}
	// a full readtable may be changed where no entry is added
	for _, c := range []struct {
		c    rune
		kind int
		n    int
	}{{1000, token.Single, 64}, {1000, token.Constituent, 63}, {'a', token.Constituent, 64}, {'#', token.Nonterminating, 64}} {
		got, e := token.Set(big, c.c, c.kind)
		if e != api.OK || len(got.Entries) != c.n {
			t.Errorf("Set(full, %q, %d) has %d entries, %v", c.c, c.kind, len(got.Entries), e)
		}
	}
	if !sameTable(big, full(token.MaxEntries)) {
		t.Error("Set has changed its argument")
	}
	if got, e := token.Set(token.Table{Case: token.Invert}, 'x', token.White); got.Case != token.Invert || e != api.OK {
		t.Errorf("Set has another case: %v, %v", got, e)
	}
}

// P6.2: Set changes its character alone, can be taken back, and comes in any order.
func TestSetProperties(t *testing.T) {
	r := rand.New(rand.NewSource(61))
	chars := []rune("aAzZ09#\\|\"' \x01\x7f$é☺")
	for range 3000 {
		table := anyTable(r)
		before := token.Table{Entries: slices.Clone(table.Entries), Case: table.Case}
		c, d := chars[r.Intn(len(chars))], chars[r.Intn(len(chars))]
		kind, other := r.Intn(7), r.Intn(7)
		x := must[token.Table](t)(token.Set(table, c, kind))
		if e := token.Check(x); e != api.OK || !sameTable(table, before) {
			t.Fatalf("Set(%v, %q, %d) = %v: %v", before, c, kind, x, e)
		}
		for _, b := range chars {
			want, _ := token.Kind(table, b)
			if b == c {
				want = kind
			}
			if got, _ := token.Kind(x, b); got != want {
				t.Fatalf("Set(%v, %q, %d): the kind of %q is %d", table, c, kind, b, got)
			}
		}
		old, _ := token.Kind(table, c)
		if back := must[token.Table](t)(token.Set(x, c, old)); !sameTable(back, table) {
			t.Fatalf("Set(%v, %q, %d), taken back, is %v", table, c, kind, back)
		}
		if c == d {
			continue
		}
		y := must[token.Table](t)(token.Set(x, d, other))
		z := must[token.Table](t)(token.Set(must[token.Table](t)(token.Set(table, d, other)), c, kind))
		if !sameTable(y, z) {
			t.Fatalf("%v: %q and %q in both orders: %v, %v", table, c, d, y, z)
		}
	}
}
