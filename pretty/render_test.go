package pretty_test

import (
	"math"
	"math/rand"
	"strings"
	"testing"

	"commonform/api"
	"commonform/pretty"
)

func ops(l ...pretty.Op) []pretty.Op { return l }

func op(kind, n, m int) pretty.Op { return pretty.Op{Kind: kind, N: n, M: m} }

// blocks returns so many blocks within one another.
func blocks(n int) []pretty.Op {
	var l []pretty.Op
	for range n {
		l = append(l, open("("))
	}
	for range n {
		l = append(l, end(")"))
	}
	return l
}

func many(n int, x pretty.Op) []pretty.Op {
	var l []pretty.Op
	for range n {
		l = append(l, x)
	}
	return l
}

// P9.1: the error of operations; all functions return it first.
func TestCheck(t *testing.T) {
	long := text(strings.Repeat("x", 20000))
	noted := newline(pretty.Fill)
	noted.Text = "x"
	for i, c := range []struct {
		l    []pretty.Op
		want api.Errno
	}{
		{nil, api.OK}, {blocks(100), api.OK}, {ops(long), api.OK}, {many(4000, text("")), api.OK}, {ops(op(pretty.Indent, -100, 999), op(pretty.Indent, 100, -1), op(pretty.Tab, 0, 100), op(pretty.Tab, 100, 0), op(pretty.Newline, 3, 999), text("\n"), op(pretty.Text, 999, -999), noted), api.OK},
		{append(many(4000, text("")), op(9, 0, 0)), api.ErrSize}, {ops(long, noted, op(9, 0, 0)), api.ErrSize}, {ops(long, open("x")), api.ErrSize},
		{ops(op(-1, 0, 0)), api.ErrArg}, {ops(op(6, 0, 0)), api.ErrArg}, {ops(newline(-1)), api.ErrArg}, {ops(newline(4)), api.ErrArg}, {ops(indent(-101)), api.ErrArg}, {ops(here(101)), api.ErrArg}, {ops(tab(-1, 0)), api.ErrArg}, {ops(tab(101, 0)), api.ErrArg}, {ops(by(0, -1)), api.ErrArg}, {ops(by(0, 101)), api.ErrArg}, {ops(op(math.MinInt, 0, 0)), api.ErrArg},
		{ops(text("\xff")), api.ErrForm}, {ops(open("\n"), end("")), api.ErrForm}, {ops(open(""), end("a\n")), api.ErrForm}, {ops(pretty.Op{Kind: pretty.Newline, Text: "\xff"}), api.ErrForm}, {ops(end("\n")), api.ErrForm},
		{ops(end("")), pretty.ErrBlock}, {ops(open("")), pretty.ErrBlock}, {ops(open(""), end(""), end("")), pretty.ErrBlock}, {ops(end(""), open("")), pretty.ErrBlock}, {blocks(101), pretty.ErrBlock},
		// one by one
		{ops(open(""), op(9, 0, 0)), api.ErrArg}, {ops(end(""), op(9, 0, 0)), pretty.ErrBlock}, {ops(text("\xff"), op(9, 0, 0)), api.ErrForm}, {ops(pretty.Op{Kind: 9, Text: "\xff"}), api.ErrArg}, {append(blocks(101)[:101], op(9, 0, 0)), pretty.ErrBlock},
	} {
		if e := pretty.Check(c.l); e != c.want {
			t.Errorf("Check of the operations %d: %v; want %v", i, e, c.want)
		}
		if c.want == api.OK {
			continue
		}
		if s, e := pretty.Flat(c.l); s != "" || e != c.want {
			t.Errorf("Flat of the operations %d = %.50q, %v; want %v", i, s, e, c.want)
		}
		if s, e := pretty.Render(c.l, 0, -1); s != "" || e != c.want {
			t.Errorf("Render of the operations %d = %.50q, %v; want %v", i, s, e, c.want)
		}
	}
}

// P9.1: widths of texts.
func TestWidth(t *testing.T) {
	for s, want := range map[string]int{"": 0, "\n": 0, "abc": 3, "ab\nabc\né": 3, "abc\nd": 3, "\n\nab": 2, "é☺\na": 2, "\xff\xff": 2, "a\r\nb": 2, "ab \n": 3} {
		if n := pretty.Width(s); n != want {
			t.Errorf("Width(%q) = %d; want %d", s, n, want)
		}
	}
}

// P9.1: texts without breaks, and tabs.
func TestFlat(t *testing.T) {
	for _, c := range []struct {
		l    []pretty.Op
		want string
	}{
		{nil, ""}, {row(pretty.Mandatory), "(aa bb cc)"}, {ops(each("; "), text("a"), newline(0), text("b"), indent(9), end("]")), "; ab]"},
		{ops(text("ab"), tab(5, 0), text("c"), tab(2, 4), text("d"), by(1, 8), text("e")), "ab   c    d     e"}, {ops(text("ab"), tab(2, 0), text("c")), "abc"}, {ops(text("abc"), tab(2, 0), text("c")), "abcc"}, {ops(text("ab"), tab(2, 3), text("c")), "ab   c"}, {ops(text("ab"), tab(0, 2), text("c")), "ab  c"}, {ops(tab(0, 2), text("c")), "  c"}, {ops(text("a"), tab(0, 1), text("c")), "a c"}, {ops(text("ab"), by(0, 2), text("c")), "abc"}, {ops(text("ab"), by(1, 2), text("c")), "ab  c"}, {ops(text("ab"), by(3, 0), text("c")), "ab   c"}, {ops(text("ab"), by(0, 0), text("c")), "abc"}, {ops(text("é☺"), tab(3, 0), text("c")), "é☺ c"}, {ops(text("abc\nd"), tab(3, 0), text("c")), "abc\nd  c"}, {ops(text("abcdef"), tab(5, 100), text("c")), "abcdef" + strings.Repeat(" ", 99) + "c"}, {ops(open("(("), tab(3, 0), end(")")), "(( )"},
	} {
		if s, e := pretty.Flat(c.l); s != c.want || e != api.OK {
			t.Errorf("Flat(%v) = %q, %v; want %q", c.l, s, e, c.want)
		}
		if s, e := pretty.Render(without(c.l, func(x pretty.Op) bool { return x.Kind == pretty.Newline }), 1, 0); s != c.want || e != api.OK {
			t.Errorf("Render(%v) without newlines = %q, %v; want %q", c.l, s, e, c.want)
		}
	}
	if s, e := pretty.Flat(many(1000, by(100, 0))); len(s) != 100000 || e != api.OK {
		t.Errorf("the longest text: %d bytes, %v", len(s), e)
	}
	if s, e := pretty.Flat(append(many(1000, by(100, 0)), text("x"))); s != "" || e != api.ErrLarge {
		t.Errorf("a text that is too long: %d bytes, %v", len(s), e)
	}
}

// P9.1: lines.
func TestRender(t *testing.T) {
	prefixed := append(ops(each("; ")), row(pretty.Mandatory)[1:]...)
	indented := append(ops(open("("), text("aa"), text(" "), indent(2), newline(pretty.Linear)), row(0)[4:]...)
	nested := ops(open("("), text("a "), newline(pretty.Linear), open("["), text("b "), newline(pretty.Linear), text("c"), end("]"), text(" "), newline(pretty.Linear), text("d"), end(")"))
	for i, c := range []struct {
		l            []pretty.Op
		width, miser int
		want         string
	}{
		// the kinds of newlines
		{row(pretty.Linear), 10, 0, "(aa bb cc)"}, {row(pretty.Linear), 9, 0, "(aa\n bb\n cc)"}, {row(pretty.Fill), 10, 0, "(aa bb cc)"}, {row(pretty.Fill), 9, 0, "(aa bb\n cc)"}, {row(pretty.Fill), 7, 0, "(aa bb\n cc)"}, {row(pretty.Fill), 6, 0, "(aa\n bb\n cc)"}, {row(pretty.Fill), 7, 6, "(aa\n bb\n cc)"}, {row(pretty.Fill), 7, 5, "(aa bb\n cc)"}, {row(pretty.Fill), 10, 200, "(aa bb cc)"}, {row(pretty.Miser), 6, 0, "(aa bb cc)"}, {row(pretty.Miser), 6, 5, "(aa\n bb\n cc)"}, {row(pretty.Miser), 6, 4, "(aa bb cc)"}, {row(pretty.Miser), 10, 200, "(aa bb cc)"}, {row(pretty.Mandatory), 200, 0, "(aa\n bb\n cc)"}, {row(pretty.Linear), 1, 0, "(aa\n bb\n cc)"},
		{ops(open("("), text("aa"), text(" "), newline(pretty.Linear), text("bb"), end(")")), 7, 0, "(aa bb)"}, {ops(open("("), text("aa"), text(" "), newline(pretty.Linear), text("bb"), end(")")), 6, 0, "(aa\n bb)"},
		// behind what took more than a line, Fill breaks
		{ops(open("("), text("a\nb "), newline(pretty.Fill), text("c"), end(")")), 80, 0, "(a\nb\n c)"}, {ops(open("("), text("a "), newline(pretty.Fill), open("["), text("b"), newline(pretty.Mandatory), text("c"), end("]"), text(" "), newline(pretty.Fill), text("d"), newline(pretty.Fill), text("e"), end(")")), 80, 0, "(a\n [b\n  c]\n de)"},
		// what follows a block counts for its last section
		{ops(open("("), text("a "), newline(pretty.Fill), text("b"), end(")"), text("ccc"), newline(pretty.Linear), text("ddd")), 7, 0, "(a\n b)ccc\nddd"}, {ops(open("("), text("a "), newline(pretty.Fill), text("b"), end(")"), text("ccc"), newline(pretty.Linear), text("ddd")), 8, 0, "(a b)ccc\nddd"}, {ops(open("("), text("a "), newline(pretty.Fill), text("b"), end(")"), open("["), text("c"), newline(pretty.Linear), text("d"), end("]"), newline(pretty.Linear), text("eeeeeeee")), 8, 0, "(a\n b)[c\n    d]\neeeeeeee"}, {ops(open("{"), open("("), text("a "), newline(pretty.Fill), text("b"), end(")"), end("}"), text("ccc")), 8, 0, "{(a\n  b)}ccc"}, {ops(open("{"), open("("), text("a "), newline(pretty.Fill), text("b"), end(")"), end("}"), newline(pretty.Fill), text("ccc")), 8, 0, "{(a b)}\nccc"},
		// blocks within blocks
		{nested, 11, 0, "(a [b c] d)"}, {nested, 10, 0, "(a\n [b c]\n d)"}, {nested, 5, 0, "(a\n [b\n  c]\n d)"}, {nested, 6, 0, "(a\n [b\n  c]\n d)"}, {nested, 7, 0, "(a\n [b c]\n d)"},
		// a section that ends with a mandatory newline, or a line feed in a text, fits or not
		{ops(text("a"), newline(pretty.Fill), text("b"), newline(pretty.Mandatory), text("c")), 80, 0, "ab\nc"}, {ops(text("a"), newline(pretty.Fill), text("b\nc")), 80, 0, "a\nb\nc"}, {ops(text("a"), newline(pretty.Linear), text("b\nc")), 80, 0, "a\nb\nc"}, {ops(text("a"), newline(pretty.Linear), text("b"), newline(pretty.Mandatory)), 80, 0, "a\nb\n"}, {ops(open("("), newline(pretty.Linear), end(")"), text("\n")), 80, 0, "(\n )\n"}, {ops(newline(pretty.Fill), open("("), newline(pretty.Mandatory), end(")")), 80, 0, "\n(\n )"},
		// indentations
		{indented, 6, 0, "(aa\n   bb\n   cc)"}, {indented, 6, 5, "(aa\n bb\n cc)"}, {ops(open("(("), indent(-1), text("a"), newline(3), text("b"), end("")), 80, 0, "((a\n b"}, {ops(open("(("), indent(-9), text("a"), newline(3), text("b"), end("")), 80, 0, "((a\nb"}, {ops(open("("), text("ab"), here(0), newline(3), text("c"), here(1), newline(3), text("d"), end("")), 80, 0, "(ab\n   c\n     d"}, {ops(open("("), text("ab"), here(-2), newline(3), text("c"), indent(0), newline(3), text("d"), end("")), 80, 0, "(ab\n c\n d"}, {ops(text("abc"), here(0), newline(3), text("d")), 80, 80, "abc\nd"}, {ops(text("abc"), here(0), newline(3), text("d")), 80, 79, "abc\n   d"}, {ops(open("("), indent(3), open("["), newline(3), end("]"), newline(3), end("")), 80, 0, "([\n  ]\n    "},
		// prefixes of each line
		{prefixed, 80, 0, "; aa\n; bb\n; cc)"}, {append(ops(text("xx")), prefixed...), 80, 0, "xx; aa\n  ; bb\n  ; cc)"}, {ops(each("> "), each("- "), text("a"), newline(3), text("b"), end(""), newline(3), text("c"), end("")), 80, 0, "> - a\n> - b\n> c"}, {ops(each("> "), open("["), each("- "), text("a"), newline(3), text("b"), end(""), end(""), end("")), 80, 0, "> [- a\n>  - b"}, {ops(each("> "), indent(-2), text("a"), newline(3), text("b"), end("")), 80, 0, "> a\n> b"}, {ops(each("> "), indent(2), newline(3), newline(3), text("b"), end("")), 80, 0, ">\n>\n>   b"}, {ops(each(">>>"), text("a\n"), each("-"), newline(3), text("b"), end(""), end("")), 80, 0, ">>>a\n-\n>>>-b"}, {ops(each(""), text("a"), newline(3), text("b"), end("")), 80, 0, "a\nb"}, {ops(text("ab"), each(""), indent(-1), newline(3), text("c"), end("")), 80, 0, "ab\n  c"},
		// spaces at the end of lines
		{ops(text("a   "), newline(3), text("  b"), tab(9, 0), newline(3), text("   "), newline(3), text("c  ")), 80, 0, "a\n  b\n\nc  "}, {ops(text("a\n  "), newline(3), text("b")), 80, 0, "a\n\nb"}, {ops(text("a\t"), newline(3)), 80, 0, "a\t\n"},
		// widths in characters; tabs
		{ops(text("é☺"), newline(pretty.Linear), text("é")), 3, 0, "é☺é"}, {ops(text("é☺"), newline(pretty.Linear), text("é")), 2, 0, "é☺\né"}, {ops(text("a"), newline(pretty.Fill), tab(5, 0), text("b")), 6, 0, "a    b"}, {ops(text("a"), newline(pretty.Fill), tab(5, 0), text("b")), 5, 0, "a\n     b"}, {ops(text("abcdef"), newline(pretty.Fill), newline(pretty.Fill), text("")), 5, 0, "abcdef\n"},
		{nil, 1, 0, ""}, {nil, 200, 200, ""},
	} {
		s, e := pretty.Render(c.l, c.width, c.miser)
		if s != c.want || e != api.OK {
			t.Errorf("%d: Render in %d, %d = %q, %v; want %q", i, c.width, c.miser, s, e, c.want)
		}
		if other := simple(c.l, c.width, c.miser); other != c.want {
			t.Errorf("%d: the simple renderer writes %q in %d, %d; want %q", i, other, c.width, c.miser, c.want)
		}
	}
}

// P9.1: widths with an error, and texts that are too long.
func TestRenderErrors(t *testing.T) {
	for _, c := range [][2]int{{0, 0}, {-1, 0}, {201, 0}, {1, -1}, {1, 201}, {math.MaxInt, math.MinInt}} {
		if s, e := pretty.Render(row(0), c[0], c[1]); s != "" || e != api.ErrArg {
			t.Errorf("Render in %v = %q, %v", c, s, e)
		}
	}
	// each line is 1000 bytes long, with its line feed
	line := append(ops(text(strings.Repeat(" ", 99)), here(0)), many(1100, newline(3))...)
	if s, e := pretty.Render(line, 80, 0); len(s) != 1100+99 || e != api.OK {
		t.Errorf("empty lines: %d bytes, %v", len(s), e)
	}
	full := ops(text(strings.Repeat(" ", 998)), here(0), text("x"))
	for range 99 {
		full = append(full, newline(3), text("x"))
	}
	full = append(full, newline(3))
	full[len(full)-1] = text("y")
	if s, e := pretty.Render(full, 80, 0); len(s) != 100000 || e != api.OK {
		t.Errorf("the longest text: %d bytes, %v", len(s), e)
	}
	if s, e := pretty.Render(append(full, text("z")), 80, 0); s != "" || e != api.ErrLarge {
		t.Errorf("a text that is too long: %d bytes, %v", len(s), e)
	}
	// spaces that a later break removes do not count
	if s, e := pretty.Render(append(full[:len(full)-1:len(full)-1], by(100, 0), newline(3), newline(3)), 80, 0); e != api.ErrLarge || s != "" {
		t.Errorf("an indentation that is too long: %d bytes, %v", len(s), e)
	}
	if s, e := pretty.Render(append(full[:len(full)-1:len(full)-1], by(100, 0), indent(0), newline(3)), 80, 0); len(s) != 100000 || e != api.OK {
		t.Errorf("the longest text with spaces: %d bytes, %v", len(s), e)
	}
	// lines that grow
	var wide []pretty.Op
	for range 1000 {
		wide = append(wide, by(100, 0), here(0), newline(3), text("x"))
	}
	if s, e := pretty.Render(wide, 80, 0); s != "" || e != api.ErrLarge {
		t.Errorf("lines that grow: %d bytes, %v", len(s), e)
	}
}

// P9.1: lines are those of a renderer that takes the operations as a tree.
func TestRenderRandom(t *testing.T) {
	r := rand.New(rand.NewSource(91))
	for range 40000 {
		l := anyOps(r, r.Intn(25))
		width, miser := 1+r.Intn(25), r.Intn(25)*r.Intn(2)
		s, e := pretty.Render(l, width, miser)
		if want := simple(l, width, miser); s != want || e != api.OK {
			t.Fatalf("Render(%v, %d, %d) = %q, %v; want %q", l, width, miser, s, e, want)
		}
	}
}

func squeezed(s string) string { return strings.NewReplacer(" ", "", "\n", "").Replace(s) }

// P9.2, P9.3, P9.5: what holds of all lines.
func TestRenderProperties(t *testing.T) {
	r := rand.New(rand.NewSource(92))
	feeds := func(x pretty.Op) bool { return strings.Contains(x.Text, "\n") }
	for range 20000 {
		l := without(anyOps(r, r.Intn(25)), feeds)
		width, miser := 1+r.Intn(40), r.Intn(25)
		s, _ := pretty.Render(l, width, miser)
		flat, e := pretty.Flat(l)
		if e != api.OK {
			t.Fatal(e)
		}
		mandatory := without(l, func(x pretty.Op) bool { return x.Kind != pretty.Newline || x.N != pretty.Mandatory })
		if len(mandatory) == 0 && pretty.Width(flat) <= width && s != flat {
			t.Fatalf("Render(%v, %d, %d) = %q; Flat is %q", l, width, miser, s, flat)
		}
		lines := strings.Split(s, "\n")
		for _, line := range lines[:len(lines)-1] {
			if strings.HasSuffix(line, " ") {
				t.Fatalf("Render(%v, %d, %d) = %q: a line ends with a space", l, width, miser, s)
			}
		}
		bare := without(l, func(x pretty.Op) bool { return x.Kind == pretty.Newline })
		if flat, _ := pretty.Flat(bare); true {
			if s, _ := pretty.Render(bare, width, miser); s != flat {
				t.Fatalf("Render(%v, %d, %d) = %q; Flat is %q", bare, width, miser, s, flat)
			}
		}
		for i := range l {
			l[i].Flag = l[i].Flag && l[i].Kind != pretty.Open
		}
		s, _ = pretty.Render(l, width, miser)
		if squeezed(s) != squeezed(flat) {
			t.Fatalf("Render(%v, %d, %d) = %q: other words than %q", l, width, miser, s, flat)
		}
	}
}

// P9.4: the newlines of a block.
func TestBlocks(t *testing.T) {
	r := rand.New(rand.NewSource(93))
	for range 5000 {
		n := 1 + r.Intn(5)
		for kind, want := range map[int][]int{pretty.Linear: {0, n}, pretty.Mandatory: {n}, pretty.Miser: {0, n}} {
			l := ops(text(strings.Repeat("x", r.Intn(5))), open("("), text("a"))
			for range n {
				l = append(l, text(" "), newline(kind), text(strings.Repeat("b", r.Intn(6))))
			}
			l = append(l, end(")"), text(strings.Repeat("y", r.Intn(5))))
			width, miser := 1+r.Intn(30), r.Intn(30)
			s, _ := pretty.Render(l, width, miser)
			feeds := strings.Count(s, "\n")
			if feeds != want[0] && feeds != want[len(want)-1] {
				t.Fatalf("Render(%v, %d, %d) = %q", l, width, miser, s)
			}
			if start := len(l[0].Text) + 1; kind == pretty.Miser && width-start > miser && feeds > 0 {
				t.Fatalf("Render(%v, %d, %d) = %q: the miser width does not reach", l, width, miser, s)
			}
		}
	}
}

// P1: no function panics, whatever the operations.
func TestGarbage(t *testing.T) {
	r := rand.New(rand.NewSource(94))
	for range 30000 {
		l := anyOps(r, r.Intn(12))
		for range r.Intn(3) {
			if len(l) == 0 {
				break
			}
			i := r.Intn(len(l))
			l[i] = pretty.Op{Kind: r.Intn(8) - 1, Text: []string{"", "a", "\n", "\xff"}[r.Intn(4)], N: r.Intn(250) - 120, M: r.Intn(130) - 10, Flag: r.Intn(2) == 0}
		}
		width, miser := r.Intn(210)-2, r.Intn(210)-2
		want := pretty.Check(l)
		flat, e := pretty.Flat(l)
		if e != want || e != api.OK && flat != "" {
			t.Fatalf("Flat(%v) = %q, %v; want %v", l, flat, e, want)
		}
		if want == api.OK && (width < 1 || width > 200 || miser < 0 || miser > 200) {
			want = api.ErrArg
		}
		if s, e := pretty.Render(l, width, miser); e != want || e != api.OK && s != "" {
			t.Fatalf("Render(%v, %d, %d) = %q, %v; want %v", l, width, miser, s, e, want)
		}
	}
}
