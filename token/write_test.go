package token_test

import (
	"math"
	"math/rand"
	"regexp"
	"strings"
	"testing"

	"commonform/api"
	"commonform/token"
)

// P6.1: potential numbers.
func TestPotential(t *testing.T) {
	for _, c := range []struct {
		s    string
		base int
		want bool
	}{
		{"+1", 10, true}, {"1/2", 10, true}, {"1e5", 10, true}, {"-.5", 10, true}, {"12_3", 10, true}, {"ff", 16, true}, {"FF", 16, true}, {"1", 2, true}, {"9", 2, true}, {"^1", 10, true}, {"_1", 10, true}, {".1", 10, true}, {"1.", 10, true}, {"1/", 10, true}, {"1^", 10, true}, {"1a", 10, true}, {"1a1b1", 10, true}, {"1+1", 10, true}, {"++1", 10, true}, {"1e+5", 10, true}, {"z", 36, true}, {"1a+b", 10, true}, {"az1", 11, true}, {"1/2/3", 10, true}, {"1ea", 11, true},
		{"", 10, false}, {"+", 10, false}, {"1+", 10, false}, {"1-", 10, false}, {"abc", 10, false}, {"1ab", 10, false}, {"ff", 10, false}, {"ff", 15, false}, {"/1", 10, false}, {"a1", 10, false}, {"z1", 35, false}, {".", 10, false}, {"^", 10, false}, {"1:2", 10, false}, {"1 2", 10, false}, {"1é", 10, false}, {"é1", 10, false}, {"٣", 10, false}, {"1zy2", 34, false}, {"1#", 10, false}, {"-", 36, false}, {"1☺", 10, false}, {"e5", 10, false},
	} {
		if got, e := token.Potential(c.s, c.base); got != c.want || e != api.OK {
			t.Errorf("Potential(%q, %d) = %v, %v", c.s, c.base, got, e)
		}
	}
	long := strings.Repeat("1", api.MaxSource)
	for _, c := range []struct {
		s    string
		base int
		want api.Errno
	}{{long + "1", 0, api.ErrSize}, {"1\xff", 0, api.ErrForm}, {"1", 1, api.ErrArg}, {"1", 37, api.ErrArg}, {"", math.MinInt, api.ErrArg}} {
		if got, e := token.Potential(c.s, c.base); got || e != c.want {
			t.Errorf("Potential(%.20q, %d) = %v, %v; want %v", c.s, c.base, got, e, c.want)
		}
	}
	if got, e := token.Potential(long, 10); !got || e != api.OK {
		t.Errorf("Potential of the longest text = %v, %v", got, e)
	}
}

// P6.1: potential numbers are those of patterns.
func TestPotentialPatterns(t *testing.T) {
	r := rand.New(rand.NewSource(66))
	bases := map[int]string{2: "0-9", 10: "0-9", 11: "0-9aA", 16: "0-9a-fA-F", 36: "0-9a-zA-Z"}
	for base, digits := range bases {
		right := regexp.MustCompile("^[" + digits + "+./^_a-zA-Z-]*$")
		begin := regexp.MustCompile("^[" + digits + "+.^_-]")
		digit := regexp.MustCompile("[" + digits + "]")
		end := regexp.MustCompile("[+-]$")
		for range 5000 {
			s := anyText(r, 6)
			want := right.MatchString(s) && begin.MatchString(s) && digit.MatchString(s) && !end.MatchString(s)
			// letters that are no digits stand alone
			rest := digit.ReplaceAllString(s, "0")
			want = want && !regexp.MustCompile("[a-zA-Z][a-zA-Z]").MatchString(rest)
			if got, e := token.Potential(s, base); got != want || e != api.OK {
				t.Fatalf("Potential(%q, %d) = %v, %v", s, base, got, e)
			}
		}
	}
}

// P6.1: letters that are changed back.
func TestBack(t *testing.T) {
	for _, c := range []struct {
		mode    int
		s, want string
	}{
		{token.Upcase, "FooÉ1", "fooÉ1"}, {token.Downcase, "Fooé1", "FOOé1"}, {token.Preserve, "Foo", "Foo"}, {token.Invert, "foo", "FOO"}, {token.Invert, "FOO", "foo"}, {token.Invert, "Foo", "Foo"}, {token.Invert, "1é", "1é"}, {token.Upcase, "", ""}, {token.Upcase, "|A\\", "|a\\"},
	} {
		if got, e := token.Back(token.Table{Case: c.mode}, c.s); got != c.want || e != api.OK {
			t.Errorf("Back(%d, %q) = %q, %v", c.mode, c.s, got, e)
		}
	}
	for _, c := range []struct {
		t    token.Table
		s    string
		want api.Errno
	}{{token.Table{Case: 9}, "\xff", api.ErrArg}, {token.Table{}, "\xff", api.ErrForm}, {token.Table{}, strings.Repeat("\xff", api.MaxSource+1), api.ErrSize}} {
		if got, e := token.Back(c.t, c.s); got != "" || e != c.want {
			t.Errorf("Back(%v, %.20q) = %q, %v", c.t, c.s, got, e)
		}
	}
}

// table returns a readtable of a case, with some characters of other kinds.
func table(mode int, entries ...token.Entry) token.Table {
	return token.Table{Case: mode, Entries: entries}
}

// P6.1: names with and without bars.
func TestEscaped(t *testing.T) {
	noBar := token.Entry{Char: '|', Kind: token.Constituent}
	noEscape := token.Entry{Char: '\\', Kind: token.Constituent}
	for _, c := range []struct {
		t       token.Table
		s       string
		base    int
		want    string
		wantErr api.Errno
	}{
		{token.Table{}, "FOO", 10, "foo", 0}, {token.Table{}, "foo", 10, "|foo|", 0}, {token.Table{}, "Foo", 10, "|Foo|", 0}, {token.Table{}, "1+", 10, "1+", 0}, {token.Table{}, "12", 10, "|12|", 0}, {token.Table{}, "FF", 16, "|FF|", 0}, {token.Table{}, "FF", 15, "ff", 0}, {token.Table{}, "A|B", 10, "|A\\|B|", 0}, {token.Table{}, "A\\B", 10, "|A\\\\B|", 0}, {token.Table{}, ".", 10, "|.|", 0}, {token.Table{}, "..", 10, "|..|", 0}, {token.Table{}, "", 10, "||", 0}, {token.Table{}, "A:B", 10, "|A:B|", 0}, {token.Table{}, ":", 10, "|:|", 0}, {token.Table{}, "A B", 10, "|A B|", 0}, {token.Table{}, "A(", 10, "|A(|", 0}, {token.Table{}, "#A", 10, "|#A|", 0}, {token.Table{}, "A#", 10, "a#", 0}, {token.Table{}, "\x01", 10, "|\x01|", 0}, {token.Table{}, "é☺", 10, "é☺", 0}, {token.Table{}, "1E5", 10, "|1E5|", 0}, {token.Table{}, "-", 10, "-", 0},
		{table(token.Downcase), "foo", 10, "FOO", 0}, {table(token.Downcase), "FOO", 10, "|FOO|", 0}, {table(token.Preserve), "Foo", 10, "Foo", 0}, {table(token.Invert), "Foo", 10, "Foo", 0}, {table(token.Invert), "FOO", 10, "foo", 0}, {table(token.Invert), "foo", 10, "FOO", 0},
		{table(0, token.Entry{Char: '$', Kind: token.Multiple}), "a b", 10, "$a b$", 0}, {table(0, token.Entry{Char: '$', Kind: token.Multiple}), "a$|", 10, "$a\\$\\|$", 0}, {table(0, token.Entry{Char: '~', Kind: token.Multiple}), "a b", 10, "|a b|", 0}, {table(0, token.Entry{Char: '!', Kind: token.Single}), "a|", 10, "|a!||", 0}, {table(0, noBar, token.Entry{Char: '~', Kind: token.Multiple}), "a|~", 10, "~a|\\~~", 0}, {table(0, token.Entry{Char: 'A', Kind: token.Multiple}), "xA", 10, "Ax\\AA", 0},
		{table(0, noBar), "A|B", 10, "a|b", 0}, {table(0, noBar), "a", 10, "", api.ErrNone}, {table(0, noBar), "", 10, "", api.ErrNone}, {table(0, noEscape), "A\\B", 10, "a\\b", 0}, {table(0, noEscape), "A|B", 10, "", api.ErrNone}, {table(0, noEscape), "a b", 10, "|a b|", 0}, {table(0, noBar), "12", 10, "", api.ErrNone}, {table(0, noEscape, noBar), "A|\\", 10, "a|\\", 0},
		{table(9), "\xff", 99, "", api.ErrArg}, {token.Table{}, "\xff", 99, "", api.ErrForm}, {token.Table{}, strings.Repeat("a", api.MaxSource+1), 99, "", api.ErrSize}, {token.Table{}, "A", 1, "", api.ErrArg}, {token.Table{}, "A", 37, "", api.ErrArg}, {table(0, noBar), "a", 37, "", api.ErrArg},
	} {
		if got, e := token.Escaped(c.t, c.s, c.base); got != c.want || e != c.wantErr {
			t.Errorf("Escaped(%v, %.20q, %d) = %q, %v; want %q, %v", c.t, c.s, c.base, got, e, c.want, c.wantErr)
		}
	}
	long := strings.Repeat("|", api.MaxSource)
	if got, e := token.Escaped(token.Table{}, long, 10); got != "|"+strings.Repeat("\\|", api.MaxSource)+"|" || e != api.OK {
		t.Errorf("Escaped of the longest name: %d bytes, %v", len(got), e)
	}
}

// P6.1: symbols as they are written.
func TestWritten(t *testing.T) {
	name := func(kind int, pack, name string) token.Name {
		return token.Name{Kind: kind, Package: pack, Name: name}
	}
	colon := func(kind int) token.Entry { return token.Entry{Char: ':', Kind: kind} }
	noBar := token.Entry{Char: '|', Kind: token.Constituent}
	long := strings.Repeat("A", api.MaxSource)
	for _, c := range []struct {
		t       token.Table
		n       token.Name
		base    int
		want    string
		wantErr api.Errno
	}{
		{token.Table{}, name(token.Symbol, "", "FOO"), 10, "foo", 0}, {token.Table{}, name(token.Symbol, "", "A:B"), 10, "|A:B|", 0}, {token.Table{}, name(token.Symbol, "", ""), 10, "||", 0}, {token.Table{}, name(token.Keyword, "", "FOO"), 10, ":foo", 0}, {token.Table{}, name(token.Keyword, "", ""), 10, ":||", 0}, {token.Table{}, name(token.Keyword, "", "1"), 10, ":|1|", 0}, {token.Table{}, name(token.External, "P", "X"), 10, "p:x", 0}, {token.Table{}, name(token.Internal, "P", "x"), 10, "p::|x|", 0}, {token.Table{}, name(token.Internal, "p q", "X"), 10, "|p q|::x", 0}, {token.Table{}, name(token.External, "1", "2"), 10, "|1|:|2|", 0}, {token.Table{}, name(token.External, ":", ":"), 10, "|:|:|:|", 0},
		// with Invert the letters of both names are changed together
		{table(token.Invert), name(token.External, "FOO", "bar"), 10, "|FOO|:|bar|", 0}, {table(token.Invert), name(token.External, "FOO", "BAR"), 10, "foo:bar", 0}, {table(token.Invert), name(token.Internal, "Foo", "bar"), 10, "|Foo|::|bar|", 0}, {table(token.Invert), name(token.Internal, "Foo", "Bar"), 10, "Foo::Bar", 0}, {table(token.Invert), name(token.Internal, "foo", "1+"), 10, "FOO::1+", 0}, {table(token.Invert), name(token.Internal, "foo", "A B"), 10, "FOO::|A B|", 0}, {table(token.Invert, noBar), name(token.External, "FOO", "bar"), 10, "", api.ErrNone}, {table(token.Invert, token.Entry{Char: '\\', Kind: token.Invalid}), name(token.External, "FOO", "bar"), 10, "|FOO|:|bar|", 0}, {table(token.Invert), name(token.Keyword, "", "Foo"), 10, ":Foo", 0},
		{table(0, colon(token.Nonterminating)), name(token.External, "P", "X"), 10, "p:x", 0}, {table(0, colon(token.Nonterminating)), name(token.Internal, "P", "X"), 10, "p::x", 0}, {table(0, colon(token.Nonterminating)), name(token.Keyword, "", "X"), 10, "", api.ErrNone}, {table(0, colon(token.Terminating)), name(token.External, "P", "X"), 10, "", api.ErrNone}, {table(0, colon(token.White)), name(token.Internal, "P", "X"), 10, "", api.ErrNone}, {table(0, colon(token.Single)), name(token.Keyword, "", "X"), 10, "", api.ErrNone}, {table(0, colon(token.Multiple)), name(token.Internal, "P", "X"), 10, "", api.ErrNone}, {table(0, colon(token.Invalid)), name(token.Internal, "P", "X"), 10, "", api.ErrNone}, {table(0, colon(token.White)), name(token.Symbol, "", "X"), 10, "x", 0}, {table(0, colon(token.Multiple)), name(token.Symbol, "", "x"), 10, ":x:", 0},
		{table(9), name(9, "", ""), 0, "", api.ErrArg}, {full(65), name(9, "", ""), 0, "", api.ErrSize}, {token.Table{}, name(4, "", "X"), 0, "", api.ErrArg}, {token.Table{}, name(-1, "", "X"), 10, "", api.ErrArg}, {token.Table{}, name(token.Symbol, "P", "X"), 10, "", api.ErrArg}, {token.Table{}, name(token.Keyword, "P", "X"), 10, "", api.ErrArg}, {token.Table{}, name(token.External, "", "X"), 10, "", api.ErrArg}, {token.Table{}, name(token.Internal, "", "X"), 10, "", api.ErrArg}, {token.Table{}, name(token.External, "P", ""), 10, "", api.ErrArg}, {token.Table{}, name(token.Internal, "P", ""), 10, "", api.ErrArg}, {token.Table{}, name(token.Symbol, "", "X"), 1, "", api.ErrArg}, {token.Table{}, name(token.Internal, "P", "X"), 37, "", api.ErrArg},
		// the errors of the package come ahead of those of the name, and these ahead of the marker
		{token.Table{}, name(token.Internal, "\xff", long+"A"), 10, "", api.ErrForm}, {token.Table{}, name(token.Internal, long+"A", "\xff"), 10, "", api.ErrSize}, {table(0, colon(token.White)), name(token.Internal, "P", "\xff"), 10, "", api.ErrForm}, {table(0, noBar), name(token.Internal, "p", "\xff"), 10, "", api.ErrNone}, {table(0, noBar), name(token.Symbol, "", "x"), 10, "", api.ErrNone},
		// what is too long to be read gets bars
		{token.Table{}, name(token.Keyword, "", long), 10, ":|" + long + "|", 0}, {token.Table{}, name(token.Keyword, "", long[1:]), 10, ":" + strings.ToLower(long[1:]), 0},
	} {
		if got, e := token.Written(c.t, c.n, c.base); got != c.want || e != c.wantErr {
			t.Errorf("Written(%v, %s, %d) = %.40q, %v; want %.40q, %v", c.t, short(c.n), c.base, got, e, c.want, c.wantErr)
		}
	}
}

// P6.5: what is written is read as it was.
func TestThereAndBack(t *testing.T) {
	r := rand.New(rand.NewSource(67))
	written := [2]int{}
	for range 40000 {
		table, base := anyTable(r), 2+r.Intn(35)
		s := anyText(r, 6)
		text, e := token.Escaped(table, s, base)
		white := ""
		if kind, _ := token.Kind(table, '\r'); kind == token.White {
			white = "\rx"
		}
		if e == api.OK {
			written[0]++
			x, end, e := token.Next(table, text+white, 0)
			number, _ := token.Potential(token.Text(x), base)
			if e != api.OK || end != len(text) || token.Text(x) != s || token.Dots(x) > 0 || number && !x.Escapes {
				t.Fatalf("Escaped(%v, %q, %d) = %q, read as %v, %d, %v", table, s, base, text, x, end, e)
			}
		}
		n := token.Name{Kind: r.Intn(4), Name: s}
		if n.Kind >= token.External {
			n.Package = anyText(r, 5)
		}
		text, e = token.Written(table, n, base)
		if e != api.OK {
			continue
		}
		written[1]++
		x, end, e := token.Next(table, text+white, 0)
		read, f := token.Split(x)
		if e != api.OK || end != len(text) || read != n || f != api.OK {
			t.Fatalf("Written(%v, %v, %d) = %q, read as %v, %v, %v", table, n, base, text, read, e, f)
		}
	}
	if written[0] < 20000 || written[1] < 10000 {
		t.Errorf("just %v texts", written)
	}
}

// P1: no function panics, and with an error there is no result.
func TestGarbage(t *testing.T) {
	r := rand.New(rand.NewSource(68))
	for range 30000 {
		table := anyTable(r)
		for range r.Intn(3) {
			table.Entries = append(table.Entries, token.Entry{Char: rune(r.Intn(300) - 20), Kind: r.Intn(9) - 1})
		}
		table.Case += r.Intn(8) / 7
		s := anyText(r, 8) + []string{"", "", "\xff"}[r.Intn(3)]
		at, base := r.Intn(10)-1, r.Intn(40)
		x, end, e := token.Next(table, s, at)
		if e != api.OK && (!emptyToken(x) || end != 0) {
			t.Fatalf("Next(%v, %q, %d) = %v, %d, %v", table, s, at, x, end, e)
		}
		if r.Intn(2) == 0 {
			x.Escapes = !x.Escapes
			x.Chars = append(x.Chars, rune(r.Intn(300)-20))
		}
		if n, e := token.Split(x); e != api.OK && n != (token.Name{}) {
			t.Fatalf("Split(%v) = %v, %v", x, n, e)
		}
		n := token.Name{Kind: r.Intn(6) - 1, Package: anyText(r, 3), Name: s}
		if text, e := token.Written(table, n, base); e != api.OK && text != "" {
			t.Fatalf("Written(%v, %v, %d) = %q, %v", table, n, base, text, e)
		}
		token.Text(x)
		token.Dots(x)
		token.Where(s, at)
		token.Skip(table, s, at)
		token.Plain(s)
		token.Back(table, s)
		token.Potential(s, base)
		token.Escaped(table, s, base)
		token.Set(table, rune(at), base)
		token.Kind(table, rune(at))
	}
}
