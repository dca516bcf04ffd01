package token_test

import (
	"math"
	"math/rand"
	"slices"
	"strings"
	"testing"
	"unicode/utf8"

	"commonform/api"
	"commonform/token"
)

// Texts, places and readtables with an error, in the order of the errors.
func TestPlaceErrors(t *testing.T) {
	long := strings.Repeat("a", api.MaxSource+1)
	for _, c := range []struct {
		t    token.Table
		s    string
		at   int
		want api.Errno
	}{
		{token.Table{Case: 9}, long, -1, api.ErrArg}, {full(65), long, -1, api.ErrSize}, {token.Table{}, long, -1, api.ErrSize}, {token.Table{}, long + "\xff", 0, api.ErrSize}, {token.Table{}, "\xff", -1, api.ErrForm}, {token.Table{}, "a\xed\xa0\x80", 0, api.ErrForm},
		{token.Table{}, "a", -1, api.ErrArg}, {token.Table{}, "a", 2, api.ErrArg}, {token.Table{}, "é", 1, api.ErrArg}, {token.Table{}, "a☺", 3, api.ErrArg}, {token.Table{}, "", 1, api.ErrArg}, {token.Table{}, "", math.MinInt, api.ErrArg}, {token.Table{}, "a", math.MaxInt, api.ErrArg},
	} {
		if got, e := token.Skip(c.t, c.s, c.at); got != 0 || e != c.want {
			t.Errorf("Skip(%v, %.20q, %d) = %d, %v; want %v", c.t, c.s, c.at, got, e, c.want)
		}
		if x, end, e := token.Next(c.t, c.s, c.at); !emptyToken(x) || end != 0 || e != c.want {
			t.Errorf("Next(%v, %.20q, %d) = %v, %d, %v; want %v", c.t, c.s, c.at, x, end, e, c.want)
		}
		if c.t.Case != 0 || len(c.t.Entries) > 0 {
			continue
		}
		if p, e := token.Where(c.s, c.at); p != (token.Place{}) || e != c.want {
			t.Errorf("Where(%.20q, %d) = %v, %v; want %v", c.s, c.at, p, e, c.want)
		}
	}
	if got, e := token.Skip(token.Table{}, long[1:], 0); got != 0 || e != api.OK {
		t.Errorf("Skip of the longest text = %d, %v", got, e)
	}
}

// P6.1: White characters.
func TestSkip(t *testing.T) {
	table := token.Table{Entries: []token.Entry{{Char: ' ', Kind: token.Constituent}, {Char: 'é', Kind: token.White}}}
	for _, c := range []struct {
		t        token.Table
		s        string
		at, want int
	}{
		{token.Table{}, "", 0, 0}, {token.Table{}, "a", 0, 0}, {token.Table{}, "a", 1, 1}, {token.Table{}, " \t\n\f\ra", 0, 5}, {token.Table{}, "a  b", 1, 3}, {token.Table{}, "a  b", 2, 3}, {token.Table{}, "   ", 0, 3}, {token.Table{}, "  ", 2, 2}, {token.Table{}, " ;", 0, 1}, {token.Table{}, " \v", 0, 1}, {token.Table{}, " \u00a0", 0, 1},
		{table, " ", 0, 0}, {table, "éé b", 0, 4}, {table, "é", 0, 2}, {table, "aé", 1, 3},
	} {
		if got, e := token.Skip(c.t, c.s, c.at); got != c.want || e != api.OK {
			t.Errorf("Skip(%q, %d) = %d, %v; want %d", c.s, c.at, got, e, c.want)
		}
	}
}

// P6.1: tokens; stars stand under the characters that are escaped.
func TestNext(t *testing.T) {
	special := token.Table{Entries: []token.Entry{{Char: '!', Kind: token.Single}, {Char: '$', Kind: token.Multiple}, {Char: '(', Kind: token.Constituent}, {Char: '\\', Kind: token.Constituent}, {Char: 'x', Kind: token.Terminating}, {Char: '|', Kind: token.Invalid}}}
	for _, c := range []struct {
		t           token.Table
		s           string
		at          int
		chars, mask string
		end         int
		escapes     bool
	}{
		{token.Table{}, "foo(bar)", 0, "FOO", "   ", 3, false}, {token.Table{}, "foo(bar)", 4, "BAR", "   ", 7, false}, {token.Table{}, "foo(bar)", 1, "OO", "  ", 3, false},
		{token.Table{}, "a\\(b c", 0, "A(B", " * ", 4, true}, {token.Table{}, "|a b|c", 0, "a bC", "*** ", 6, true}, {token.Table{}, "a#b;", 0, "A#B", "   ", 3, false},
		{token.Table{}, "a\"", 0, "A", " ", 1, false}, {token.Table{}, "a'b", 0, "A", " ", 1, false}, {token.Table{}, "a`", 0, "A", " ", 1, false}, {token.Table{}, "a,", 0, "A", " ", 1, false}, {token.Table{}, "a;", 0, "A", " ", 1, false}, {token.Table{}, "a)", 0, "A", " ", 1, false}, {token.Table{}, "a\tb", 0, "A", " ", 1, false}, {token.Table{}, "a\n", 0, "A", " ", 1, false},
		{token.Table{}, "||", 0, "", "", 2, true}, {token.Table{}, "||||", 0, "", "", 4, true}, {token.Table{}, "|a\\|b|", 0, "a|b", "***", 6, true}, {token.Table{}, "|a\\b|", 0, "ab", "**", 5, true}, {token.Table{}, "|\\\\|", 0, "\\", "*", 4, true}, {token.Table{}, "a|\n;\x01#|b", 0, "A\n;\x01#B", " **** ", 8, true}, {token.Table{}, "\\\\", 0, "\\", "*", 2, true}, {token.Table{}, "\\ a", 0, " A", "* ", 3, true}, {token.Table{}, "\\\x01", 0, "\x01", "*", 2, true},
		{token.Table{}, "é☺Éa", 0, "é☺ÉA", "    ", 8, false}, {token.Table{}, "1.5e0", 0, "1.5E0", "     ", 5, false},
		{token.Table{Case: token.Downcase}, "FoO\\F", 0, "fooF", "   *", 5, true}, {token.Table{Case: token.Preserve}, "FoO", 0, "FoO", "   ", 3, false},
		{token.Table{Case: token.Invert}, "foo-1", 0, "FOO-1", "     ", 5, false}, {token.Table{Case: token.Invert}, "FOO", 0, "foo", "   ", 3, false}, {token.Table{Case: token.Invert}, "Foo", 0, "Foo", "   ", 3, false}, {token.Table{Case: token.Invert}, "foo\\B", 0, "FOOB", "   *", 5, true}, {token.Table{Case: token.Invert}, "|foo|BAR", 0, "foobar", "***   ", 8, true}, {token.Table{Case: token.Invert}, "12", 0, "12", "  ", 2, false}, {token.Table{Case: token.Invert}, "éÉa", 0, "éÉA", "   ", 5, false},
		{special, "a!xb\\$ |$(x", 0, "AxB\\ |(", " *  ** ", 10, true}, {special, "ax", 0, "A", " ", 1, false}, {special, "(", 0, "(", " ", 1, false},
	} {
		x, end, e := token.Next(c.t, c.s, c.at)
		mask := ""
		for _, escaped := range x.Escaped {
			mask += map[bool]string{true: "*", false: " "}[escaped]
		}
		if string(x.Chars) != c.chars || mask != c.mask || end != c.end || x.Escapes != c.escapes || e != api.OK {
			t.Errorf("Next(%q, %d) = %q, %q, %v to %d, %v; want %q, %q, %v to %d", c.s, c.at, string(x.Chars), mask, x.Escapes, end, e, c.chars, c.mask, c.escapes, c.end)
		}
	}
}

// P6.1: the errors of a token, in the order in which they are met.
func TestNextErrors(t *testing.T) {
	for _, c := range []struct {
		s    string
		at   int
		want api.Errno
	}{
		{"", 0, api.ErrNone}, {"ab", 2, api.ErrNone}, {" a", 0, api.ErrArg}, {"\n", 0, api.ErrArg}, {"(", 0, api.ErrArg}, {"#a", 0, api.ErrArg}, {"a)", 1, api.ErrArg}, {"`", 0, api.ErrArg},
		{"a\\", 0, api.ErrEnd}, {"\\", 0, api.ErrEnd}, {"a|b", 0, api.ErrEnd}, {"|", 0, api.ErrEnd}, {"|a\\|", 0, api.ErrEnd}, {"|a\\", 0, api.ErrEnd}, {"|||", 0, api.ErrEnd}, {"\\||", 0, api.ErrEnd},
		{"\x01", 0, token.ErrInvalid}, {"a\x7f", 0, token.ErrInvalid}, {"a\x00|", 0, token.ErrInvalid}, {"|a|\x01\\", 0, token.ErrInvalid}, {"|\x01", 0, api.ErrEnd},
	} {
		if x, end, e := token.Next(token.Table{}, c.s, c.at); !emptyToken(x) || end != 0 || e != c.want {
			t.Errorf("Next(%q, %d) = %v, %d, %v; want %v", c.s, c.at, x, end, e, c.want)
		}
	}
}

// P6.3: what Next took, read alone or ahead of anything, is the same token.
func TestNextEnds(t *testing.T) {
	r := rand.New(rand.NewSource(62))
	read := 0
	for range 20000 {
		table, s := anyTable(r), anyText(r, 9)
		x, end, e := token.Next(table, s, 0)
		if e != api.OK {
			continue
		}
		read++
		alone, n, e := token.Next(table, s[:end], 0)
		if !sameToken(alone, x) || n != end || e != api.OK {
			t.Fatalf("Next(%v, %q) = %v; alone it is %v, %d, %v", table, s, x, alone, n, e)
		}
		if white, _ := token.Kind(table, '\r'); white == token.White {
			rest, n, e := token.Next(table, s[:end]+"\r"+anyText(r, 9), 0)
			if !sameToken(rest, x) || n != end || e != api.OK {
				t.Fatalf("Next(%v, %q) with something behind it = %v, %d, %v", table, s, rest, n, e)
			}
		}
		front := anyText(r, 5)
		moved, n, e := token.Next(table, front+s, len(front))
		if !sameToken(moved, x) || n != end+len(front) || e != api.OK {
			t.Fatalf("Next(%v, %q) behind %q = %v, %d, %v", table, s, front, moved, n, e)
		}
		if !x.Escapes && len(x.Chars) != utf8.RuneCountInString(s[:end]) {
			t.Fatalf("Next(%v, %q) = %v: another number of characters", table, s, x)
		}
		if token.Text(x) != string(x.Chars) {
			t.Fatalf("%v is not right", x)
		}
	}
	if read < 5000 {
		t.Errorf("just %d tokens", read)
	}
}

// P6.4: cases.
func TestCases(t *testing.T) {
	r := rand.New(rand.NewSource(63))
	for range 20000 {
		table, s := token.Table{Case: r.Intn(4)}, anyText(r, 9)
		x, end, e := token.Next(table, s, 0)
		if e != api.OK {
			continue
		}
		table.Case = token.Preserve
		kept, _, _ := token.Next(table, s, 0)
		if !x.Escapes && string(kept.Chars) != s[:end] {
			t.Fatalf("with Preserve %q is %q", s[:end], string(kept.Chars))
		}
		table.Case = token.Invert
		inverted := next(t, table, s)
		if x.Escapes {
			continue
		}
		if again := next(t, table, token.Text(inverted)); string(again.Chars) != string(kept.Chars) {
			t.Fatalf("with Invert %q is %q, and this is %q", s[:end], string(inverted.Chars), string(again.Chars))
		}
	}
	for range 20000 {
		s := anyText(r, 9)
		for mode, letters := range map[int]string{token.Upcase: "abefz", token.Downcase: "ABFZ"} {
			x, _, e := token.Next(token.Table{Case: mode}, s, 0)
			for i, c := range x.Chars {
				if e == api.OK && !x.Escaped[i] && strings.ContainsRune(letters, c) {
					t.Fatalf("in the case %d %q is %q", mode, s, string(x.Chars))
				}
			}
		}
	}
}

// P6.1: tokens that were not read.
func TestPlain(t *testing.T) {
	for _, s := range []string{"", "abc", "a b|\\", "é☺", strings.Repeat("x", api.MaxSource)} {
		x, e := token.Plain(s)
		if string(x.Chars) != s || len(x.Escaped) != len(x.Chars) || slices.Contains(x.Escaped, true) || x.Escapes || e != api.OK || token.Text(x) != s {
			t.Errorf("Plain(%.20q) = %v, %v", s, x, e)
		}
	}
	for s, want := range map[string]api.Errno{"\xff": api.ErrForm, "a\xc3": api.ErrForm, strings.Repeat("\xff", api.MaxSource+1): api.ErrSize} {
		if x, e := token.Plain(s); !emptyToken(x) || e != want {
			t.Errorf("Plain(%.20q) = %v, %v", s, x, e)
		}
	}
}

// wrongTokens returns tokens that are not right.
func wrongTokens() []token.Token {
	return []token.Token{
		{Chars: []rune{'a'}}, {Escaped: []bool{false}}, {Chars: []rune{'.'}, Escaped: []bool{false, false}}, {Chars: []rune{'.'}, Escaped: []bool{true}}, {Chars: []rune{-1}, Escaped: []bool{false}}, {Chars: []rune{0xd800}, Escaped: []bool{false}}, {Chars: []rune{'.', 0x110000}, Escaped: []bool{false, false}},
		{Chars: make([]rune, api.MaxSource+1), Escaped: make([]bool, api.MaxSource+1)},
	}
}

// P6.1: a token that is not right has no text, no dots and no name.
func TestWrongTokens(t *testing.T) {
	for _, x := range wrongTokens() {
		n, e := token.Split(x)
		if token.Text(x) != "" || token.Dots(x) != 0 || n != (token.Name{}) || e != api.ErrArg {
			t.Errorf("%s: %q, %d, %v, %v", short(x), token.Text(x), token.Dots(x), n, e)
		}
	}
	// the longest right one; a Token without characters
	long := token.Token{Chars: make([]rune, api.MaxSource), Escaped: make([]bool, api.MaxSource)}
	if n, e := token.Split(long); len(n.Name) != api.MaxSource || e != api.OK {
		t.Errorf("the longest token: %v", e)
	}
	if n, e := token.Split(token.Token{}); n != (token.Name{Kind: token.Symbol}) || e != api.OK {
		t.Errorf("no characters: %v, %v", n, e)
	}
}

// P6.1: dots alone.
func TestDots(t *testing.T) {
	for s, want := range map[string]int{".": 1, "..": 2, "....": 4, ".a": 0, "a.": 0, "\\.": 0, ".||": 0, "|.|": 0, "||": 0, "a": 0, "1.": 0} {
		if n := token.Dots(next(t, token.Table{}, s)); n != want {
			t.Errorf("Dots of %q = %d; want %d", s, n, want)
		}
	}
	if n := token.Dots(token.Token{}); n != 0 {
		t.Errorf("Dots of no characters = %d", n)
	}
}

// P6.1: the symbols that tokens name.
func TestSplit(t *testing.T) {
	name := func(kind int, pack, name string) token.Name {
		return token.Name{Kind: kind, Package: pack, Name: name}
	}
	for s, want := range map[string]token.Name{
		"x": name(token.Symbol, "", "X"), "||": name(token.Symbol, "", ""), "\\.": name(token.Symbol, "", "."), "a\\:b": name(token.Symbol, "", "A:B"), "|:|": name(token.Symbol, "", ":"), "\\:a": name(token.Symbol, "", ":A"), "1": name(token.Symbol, "", "1"), ".a": name(token.Symbol, "", ".A"),
		":x": name(token.Keyword, "", "X"), ":||": name(token.Keyword, "", ""), "||:": name(token.Keyword, "", ""), ":|:|": name(token.Keyword, "", ":"), ":.": name(token.Keyword, "", "."),
		"pkg:x": name(token.External, "PKG", "X"), "p:|x|": name(token.External, "P", "x"), "|:|:\\:": name(token.External, ":", ":"), ".:.": name(token.External, ".", "."),
		"pkg::x": name(token.Internal, "PKG", "X"), "p::\\:": name(token.Internal, "P", ":"), "|a b|::c": name(token.Internal, "a b", "C"),
	} {
		if n, e := token.Split(next(t, token.Table{}, s)); n != want || e != api.OK {
			t.Errorf("Split of %q = %v, %v; want %v", s, n, e, want)
		}
	}
	for s, want := range map[string]api.Errno{
		".": token.ErrDots, "...": token.ErrDots, ":": token.ErrMarker, "::": token.ErrMarker, ":::": token.ErrMarker, "a:": token.ErrMarker, "a::": token.ErrMarker, "a:||": token.ErrMarker, "a::||": token.ErrMarker, "||::a": token.ErrMarker, "::a": token.ErrMarker, ":::x": token.ErrMarker, "a:b:c": token.ErrMarker, "a:b::c": token.ErrMarker, "a::b:c": token.ErrMarker, "a:b:": token.ErrMarker, ":a:": token.ErrMarker, ":a:b": token.ErrMarker, "a:::b": token.ErrMarker, "a::|b|:": token.ErrMarker, "a:|:|:b": token.ErrMarker,
	} {
		if n, e := token.Split(next(t, token.Table{}, s)); n != (token.Name{}) || e != want {
			t.Errorf("Split of %q = %v, %v; want %v", s, n, e, want)
		}
	}
}

// P6.6: escaped markers are none; a package and a name with their markers are Text.
func TestMarkers(t *testing.T) {
	r := rand.New(rand.NewSource(64))
	for range 30000 {
		s := anyText(r, 7)
		if r.Intn(3) == 0 {
			s = strings.ReplaceAll(s, ":", "\\:")
		}
		x, _, e := token.Next(token.Table{}, s, 0)
		if e != api.OK {
			continue
		}
		n, e := token.Split(x)
		bare := false
		for i, c := range x.Chars {
			bare = bare || c == ':' && !x.Escaped[i]
		}
		switch {
		case !bare && e != token.ErrDots && (n.Kind != token.Symbol || n.Name != token.Text(x) || e != api.OK):
			t.Fatalf("%q without markers is %v, %v", s, n, e)
		case e != api.OK:
			continue
		}
		if text := n.Package + []string{"", ":", ":", "::"}[n.Kind] + n.Name; text != token.Text(x) {
			t.Fatalf("%q is %v; its text is %q", s, n, token.Text(x))
		}
	}
}

// P6.1, P6.7: lines and columns.
func TestWhere(t *testing.T) {
	for _, c := range []struct {
		s    string
		at   int
		want token.Place
	}{
		{"", 0, token.Place{Line: 1, Column: 1}}, {"ab\ncde", 4, token.Place{Line: 2, Column: 2}}, {"ab\ncde", 2, token.Place{Line: 1, Column: 3}}, {"ab\ncde", 3, token.Place{Line: 2, Column: 1}}, {"ab\ncde", 6, token.Place{Line: 2, Column: 4}}, {"\n\n", 2, token.Place{Line: 3, Column: 1}}, {"é☺x", 5, token.Place{Line: 1, Column: 3}}, {"a\r\nb", 3, token.Place{Line: 2, Column: 1}},
	} {
		if p, e := token.Where(c.s, c.at); p != c.want || e != api.OK {
			t.Errorf("Where(%q, %d) = %v, %v; want %v", c.s, c.at, p, e, c.want)
		}
	}
	r := rand.New(rand.NewSource(65))
	for range 500 {
		s := anyText(r, 30)
		last := token.Place{Line: 1}
		feed := false
		for i := 0; i <= len(s); i++ {
			p, e := token.Where(s, i)
			if e != api.OK {
				if i == len(s) || utf8.RuneStart(s[i]) {
					t.Fatalf("Where(%q, %d): %v", s, i, e)
				}
				continue
			}
			want := token.Place{Line: last.Line, Column: last.Column + 1}
			if feed {
				want = token.Place{Line: last.Line + 1, Column: 1}
			}
			if p != want {
				t.Fatalf("Where(%q, %d) = %v; want %v", s, i, p, want)
			}
			last, feed = p, i < len(s) && s[i] == '\n'
		}
	}
}
