package printer_test

import (
	"math"
	"strings"
	"testing"

	"commonform/api"
	"commonform/forms"
	"commonform/number"
	"commonform/printer"
	"commonform/token"
)

// P8.1: the error of options.
func TestCheck(t *testing.T) {
	change := func(f func(o *printer.Options)) printer.Options { return usual(f) }
	external := func(n int) []printer.External { return make([]printer.External, n) }
	for i, c := range []struct {
		o    printer.Options
		want api.Errno
	}{
		{usual(), api.OK}, {change(func(o *printer.Options) { o.Package, o.Uses = long(100), make([]string, 64) }), api.OK}, {change(func(o *printer.Options) {
			o.External, o.Length, o.Level, o.Base = external(1000), math.MaxInt, 0, 36
		}), api.OK},
		{printer.Options{}, api.ErrArg}, {change(func(o *printer.Options) { o.Base = 1 }), api.ErrArg}, {change(func(o *printer.Options) { o.Base = 37 }), api.ErrArg}, {change(func(o *printer.Options) { o.Package = "" }), api.ErrArg}, {usual(level(-2)), api.ErrArg}, {usual(length(-2)), api.ErrArg}, {usual(mode(4)), api.ErrArg}, {change(func(o *printer.Options) { o.Table.Entries, o.Base = make([]token.Entry, 65), 0 }), api.ErrSize}, {change(func(o *printer.Options) {
			o.Table.Entries, o.Base = []token.Entry{{Char: 'b', Kind: 1}, {Char: 'a', Kind: 1}}, 0
		}), api.ErrOrder},
		{change(func(o *printer.Options) { o.Uses = make([]string, 65) }), api.ErrSize}, {change(func(o *printer.Options) { o.External = external(1001) }), api.ErrSize}, {change(func(o *printer.Options) { o.External, o.Level = external(1001), -2 }), api.ErrArg}, {change(func(o *printer.Options) { o.External, o.Package = external(1001), "\xff" }), api.ErrSize},
		{change(func(o *printer.Options) { o.Package = "\xff" }), api.ErrForm}, {change(func(o *printer.Options) { o.Package = long(101) }), api.ErrForm}, {change(func(o *printer.Options) { o.Uses = []string{"A", long(101)} }), api.ErrForm}, {change(func(o *printer.Options) { o.Uses = []string{"\xff"} }), api.ErrForm}, {change(func(o *printer.Options) { o.External = []printer.External{{}, {Home: long(101)}} }), api.ErrForm}, {change(func(o *printer.Options) { o.External = []printer.External{{Name: "\xff"}} }), api.ErrForm},
	} {
		if e := printer.Check(c.o); e != c.want {
			t.Errorf("Check of the options %d: %v; want %v", i, e, c.want)
		}
		if c.want == api.OK {
			continue
		}
		for what, call := range map[string]func() (string, api.Errno){
			"Symbol":    func() (string, api.Errno) { return printer.Symbol(c.o, api.Form{}) },
			"Character": func() (string, api.Errno) { return printer.Character(c.o, -1) },
			"String":    func() (string, api.Errno) { return printer.String(c.o, "\xff") },
			"Print":     func() (string, api.Errno) { return printer.Print(c.o, api.Form{}) },
			"Lines":     func() (string, api.Errno) { return printer.Lines(c.o, nil) },
		} {
			if s, e := call(); s != "" || e != c.want {
				t.Errorf("%s with the options %d = %q, %v; want %v", what, i, s, e, c.want)
			}
		}
	}
}

// P8.1: options that are given.
func TestOptions(t *testing.T) {
	o := printer.Standard("X")
	if o.Base != 10 || o.Package != "X" || !o.Escape || !o.Array || !o.Abbrev || o.Length != -1 || o.Level != -1 || o.Radix || o.Double || o.Readable || o.Circle || len(o.Uses)+len(o.External)+len(o.Table.Entries)+o.Table.Case > 0 {
		t.Errorf("Standard = %v", o)
	}
	o = printer.Options{Base: 99, Double: true, Length: 5, Level: 6, Uses: []string{"U"}, External: []printer.External{{Home: "H"}}, Table: token.Table{Entries: []token.Entry{{Char: 'a'}}, Case: 9}}
	x := printer.Readably(o)
	if !x.Escape || !x.Readable || !x.Circle || !x.Array || x.Length != -1 || x.Level != -1 || x.Abbrev || x.Base != 99 || !x.Double || x.Table.Case != 9 || x.Uses[0] != "U" || x.External[0].Home != "H" || x.Table.Entries[0].Char != 'a' {
		t.Errorf("Readably = %v", x)
	}
	x.Uses[0], x.External[0].Home, x.Table.Entries[0].Char = "V", "I", 'b'
	if o.Uses[0] != "U" || o.External[0].Home != "H" || o.Table.Entries[0].Char != 'a' || o.Readable || o.Length != 5 {
		t.Errorf("Readably has changed its argument: %v", o)
	}
}

// P8.1: symbols.
func TestSymbol(t *testing.T) {
	external := func(o *printer.Options) {
		o.Uses = nil
		o.External = []printer.External{{Home: "COMMON-LISP", Name: "CAR"}, {Home: "KEYWORD", Name: "K"}, {Home: "", Name: "X"}}
	}
	keyword := func(o *printer.Options) { o.Package = "KEYWORD" }
	noBar := kind('|', token.Constituent)
	sym := forms.Symbol
	for _, c := range []struct {
		o    printer.Options
		f    api.Form
		want string
		e    api.Errno
	}{
		{usual(), user("FOO"), "foo", 0}, {usual(), user("foo"), "|foo|", 0}, {usual(), user("12"), "|12|", 0}, {usual(base(16)), user("FF"), "|FF|", 0}, {usual(), user(""), "||", 0}, {usual(), lisp("CAR"), "car", 0}, {usual(external), lisp("CAR"), "common-lisp:car", 0}, {usual(external), lisp("CDR"), "common-lisp::cdr", 0}, {usual(external), sym("COMMON-LISP-USER", "CAR"), "car", 0}, {usual(external), sym("KEYWORD", "K"), ":k", 0}, {usual(keyword), sym("KEYWORD", "K"), ":k", 0}, {usual(keyword), user("X"), "common-lisp-user::x", 0}, {usual(), sym("KEYWORD", ""), ":||", 0}, {usual(), sym("KEYWORD", "a"), ":|a|", 0}, {usual(external), sym("", "X"), "#:x", 0}, {usual(), sym("", ""), "#:||", 0}, {usual(), sym("", "A:B"), "#:|A:B|", 0}, {usual(), sym("", "1"), "#:|1|", 0}, {usual(), sym("p q", "X"), "|p q|::x", 0}, {usual(), forms.Nil(), "nil", 0},
		{usual(bare), user("Foo"), "foo", 0}, {usual(bare), sym("KEYWORD", "A B"), "a b", 0}, {usual(bare), sym("Q", "|"), "|", 0}, {usual(bare, mode(token.Preserve)), sym("", "Foo"), "Foo", 0}, {usual(bare, mode(token.Invert)), user("FOO"), "foo", 0}, {usual(mode(token.Preserve)), user("Foo"), "Foo", 0}, {usual(mode(token.Downcase)), user("foo"), "FOO", 0}, {usual(mode(token.Invert)), sym("FOO", "bar"), "|FOO|::|bar|", 0},
		{usual(), integer("1"), "", api.ErrType}, {usual(), api.Form{}, "", api.ErrType}, {usual(), str("\xff"), "", api.ErrType}, {usual(), node(api.FormSymbol, "A", integer("1")), "", api.ErrForm}, {usual(bare), sym("A", "\xff"), "", api.ErrForm}, {usual(), vector(user("A")), "", api.ErrType},
		{usual(), sym("Q", ""), "", api.ErrArg}, {usual(), user(long(api.MaxSource + 1)), "", api.ErrSize}, {usual(bare), user(long(api.MaxSource + 1)), "", api.ErrSize}, {usual(noBar), user("a"), "", api.ErrNone}, {usual(noBar), sym("", "a"), "", api.ErrNone}, {usual(noBar, bare), user("a"), "a", 0}, {usual(kind(':', token.White)), sym("KEYWORD", "A"), "", api.ErrNone}, {usual(kind(':', token.White)), user("A"), "a", 0},
	} {
		if got, e := printer.Symbol(c.o, c.f); got != c.want || e != c.e {
			t.Errorf("Symbol(%v, %s) = %q, %v; want %q, %v", c.o, short(c.f), got, e, c.want, c.e)
		}
		if c.f.Kind != api.FormSymbol {
			continue
		}
		if got, e := printer.Print(c.o, c.f); got != c.want || e != c.e {
			t.Errorf("Print(%v, %s) = %q, %v; want %q, %v", c.o, short(c.f), got, e, c.want, c.e)
		}
	}
}

// P8.1, P8.5: characters.
func TestCharacter(t *testing.T) {
	for c, want := range map[rune]string{0: "Null", 8: "Backspace", 9: "Tab", 10: "Newline", 12: "Page", 13: "Return", 32: "Space", 127: "Rubout", 1: "U0001", 7: "U0007", 11: "U000B", 27: "U001B", 31: "U001F", 128: "U0080", 159: "U009F", 160: "\u00a0", 'a': "a", '(': "(", '\\': "\\", 'é': "é", 0x10ffff: "\U0010ffff"} {
		if got, e := printer.Character(usual(), c); got != "#\\"+want || e != api.OK {
			t.Errorf("Character(%d) = %q, %v", c, got, e)
		}
		if got, e := printer.Print(usual(readable), char(string(c))); got != "#\\"+want || e != api.OK {
			t.Errorf("Print of the character %d = %q, %v", c, got, e)
		}
		if got, e := printer.Character(usual(bare), c); got != string(c) || e != api.OK {
			t.Errorf("Character(%d) without escapes = %q, %v", c, got, e)
		}
		if got, e := printer.Print(usual(bare), char(string(c))); got != string(c) || e != api.OK {
			t.Errorf("Print of the character %d without escapes = %q, %v", c, got, e)
		}
	}
	for _, c := range []rune{-1, 0xd800, 0xdfff, 0x110000, math.MaxInt32} {
		for _, o := range []printer.Options{usual(), usual(bare)} {
			if got, e := printer.Character(o, c); got != "" || e != api.ErrArg {
				t.Errorf("Character(%d) = %q, %v", c, got, e)
			}
		}
	}
}

// P8.1, P8.5: strings.
func TestString(t *testing.T) {
	noEscape := kind('\\', token.Constituent)
	for _, c := range []struct {
		o       printer.Options
		s, want string
		e       api.Errno
	}{
		{usual(), "", "\"\"", 0}, {usual(), "a\"b", "\"a\\\"b\"", 0}, {usual(), "\\|\n", "\"\\\\|\n\"", 0}, {usual(), "é\x00", "\"é\x00\"", 0}, {usual(bare), "a\"\\b", "a\"\\b", 0}, {usual(bare), "", "", 0},
		{usual(kind('!', token.Single)), "\"!\\a", "\"!\"!!!\\a\"", 0}, {usual(kind('~', token.Single)), "\"~\\", "\"\\\"\\~\\\\\"", 0}, {usual(noEscape), "\\", "\"\\\"", 0}, {usual(noEscape), "a", "\"a\"", 0}, {usual(noEscape, kind('~', token.Single)), "\"\\~", "\"~\"\\~~\"", 0}, {usual(noEscape), "\"", "", printer.ErrReadable}, {usual(noEscape, bare), "\"", "\"", 0},
		{usual(), "\xff", "", api.ErrForm}, {usual(bare), "a\xc3", "", api.ErrForm}, {usual(noEscape), "\"\xff", "", api.ErrForm},
		{usual(bare), long(100000), long(100000), 0}, {usual(bare), long(100001), "", api.ErrLarge}, {usual(), long(99998), "\"" + long(99998) + "\"", 0}, {usual(), long(99999), "", api.ErrLarge}, {usual(noEscape), long(100001) + "\"", "", printer.ErrReadable}, {usual(), long(100001) + "\xff", "", api.ErrForm},
	} {
		if got, e := printer.String(c.o, c.s); got != c.want || e != c.e {
			t.Errorf("String(%v, %.20q) = %.20q, %v; want %.20q, %v", c.o, c.s, got, e, c.want, c.e)
		}
		if got, e := printer.Print(c.o, str(c.s)); got != c.want || e != c.e {
			t.Errorf("Print(%v, %.20q) = %.20q, %v; want %.20q, %v", c.o, c.s, got, e, c.want, c.e)
		}
	}
}

// P8.1: forms.
func TestPrint(t *testing.T) {
	a, b, one, two, three := user("A"), user("B"), integer("1"), integer("2"), integer("3")
	deep := list(one, list(two, list(three)), integer("4"), integer("5"))
	square := array("2 2", one, two, three, integer("4"))
	for _, c := range []struct {
		o    printer.Options
		f    api.Form
		want string
	}{
		// numbers
		{usual(), integer("-12"), "-12"}, {usual(base(16)), integer("-255"), "-FF"}, {usual(base(16), radix), integer("-255"), "#x-FF"}, {usual(radix), integer("12"), "12."}, {usual(radix), node(api.FormRatio, "1/2"), "#10r1/2"}, {usual(), node(api.FormSingle, "3fc00000"), "1.5"}, {usual(), node(api.FormDouble, "3ff8000000000000"), "1.5d0"}, {usual(double), node(api.FormSingle, "3fc00000"), "1.5f0"}, {usual(double), node(api.FormDouble, "3ff8000000000000"), "1.5"}, {usual(), node(api.FormComplex, "", one, two), "#C(1 2)"}, {usual(bare, level(0), length(0)), node(api.FormComplex, "", one, two), "#C(1 2)"},
		// lists
		{usual(), forms.Nil(), "nil"}, {usual(), list(a), "(a)"}, {usual(), list(a, b, list()), "(a b nil)"}, {usual(), cons(a, b), "(a . b)"}, {usual(), cons(a, b, one), "(a b . 1)"}, {usual(), cons(a, vector(b)), "(a . #(b))"}, {usual(), list(list(list(a))), "(((a)))"}, {usual(), vector(), "#()"}, {usual(), vector(a, vector(b)), "#(a #(b))"}, {usual(), bits(""), "#*"}, {usual(), bits("0110"), "#*0110"}, {usual(bare), list(str("a b"), char("c")), "(a b c)"},
		// abbreviations
		{usual(), call("QUOTE", a), "'a"}, {usual(), call("FUNCTION", a), "#'a"}, {usual(), call("QUOTE", call("QUOTE", a)), "''a"}, {usual(), call("QUOTE"), "(quote)"}, {usual(), call("QUOTE", a, b), "(quote a b)"}, {usual(), cons(lisp("QUOTE"), a, b), "(quote a . b)"}, {usual(), cons(lisp("QUOTE"), a), "(quote . a)"}, {usual(), list(user("QUOTE"), a), "(quote a)"}, {usual(whole), call("QUOTE", a), "(quote a)"}, {usual(whole), mark("BACKQUOTE", a), "(reader::backquote a)"}, {usual(), mark("BACKQUOTE", list(a, mark("COMMA", b), mark("SPLICE", b))), "`(a ,b ,@b)"}, {usual(), mark("COMMA", a), "(reader::comma a)"}, {usual(), mark("SPLICE", a), "(reader::splice a)"}, {usual(), mark("COMMA", user("@B")), "(reader::comma @b)"}, {usual(), mark("BACKQUOTE", mark("SPLICE", mark("COMMA", a))), "`,@(reader::comma a)"}, {usual(), mark("BACKQUOTE", mark("BACKQUOTE", mark("SPLICE", mark("SPLICE", mark("COMMA", a))))), "``,@,@(reader::comma a)"}, {usual(), mark("BACKQUOTE", mark("COMMA", mark("COMMA", a))), "`,(reader::comma a)"}, {usual(), mark("BACKQUOTE", mark("BACKQUOTE", mark("COMMA", mark("SPLICE", a)))), "``,,@a"}, {usual(), mark("BACKQUOTE", call("QUOTE", mark("COMMA", a))), "`',a"}, {usual(), mark("BACKQUOTE", cons(a, mark("COMMA", b))), "`(a reader::comma b)"}, {usual(), mark("BACKQUOTE", vector(mark("COMMA", a))), "`#(,a)"}, {usual(), list(mark("BACKQUOTE", a), mark("COMMA", b)), "(`a (reader::comma b))"},
		{usual(), mark("BACKQUOTE", mark("COMMA", user("@B"))), "`, @b"}, {usual(), mark("BACKQUOTE", mark("SPLICE", user("@B"))), "`,@@b"}, {usual(bare), mark("BACKQUOTE", mark("COMMA", str("@"))), "`, @"}, {usual(), mark("BACKQUOTE", mark("COMMA", str("@"))), "`,\"@\""}, {usual(bare), mark("BACKQUOTE", list(mark("COMMA", str("")), str("@"))), "`(, @)"}, {usual(bare), mark("BACKQUOTE", mark("COMMA", char("@"))), "`, @"}, {usual(), mark("BACKQUOTE", mark("COMMA", list(user("@B")))), "`,(@b)"}, {usual(), mark("BACKQUOTE", mark("BACKQUOTE", mark("COMMA", mark("COMMA", user("@B"))))), "``,, @b"}, {usual(circle), mark("BACKQUOTE", list(mark("COMMA", label("1", list(user("@B")))), ref("1"))), "`(,#0=(@b) #0#)"},
		// levels and lengths
		{usual(level(2)), deep, "(1 (2 #) 4 5)"}, {usual(length(2)), deep, "(1 (2 (3)) ...)"}, {usual(level(0)), deep, "#"}, {usual(length(0)), deep, "(...)"}, {usual(level(1), length(1)), deep, "(1 ...)"}, {usual(level(1)), deep, "(1 # 4 5)"}, {usual(level(0)), one, "1"}, {usual(level(0)), forms.Nil(), "nil"}, {usual(level(0)), vector(), "#"}, {usual(level(0)), call("QUOTE", a), "'a"}, {usual(level(0)), call("QUOTE", list(a)), "'#"}, {usual(level(1)), list(call("QUOTE", list(a))), "('#)"}, {usual(length(1)), call("QUOTE", a), "'a"}, {usual(length(1)), cons(a, b), "(a . b)"}, {usual(length(0)), cons(a, b), "(...)"}, {usual(length(1)), cons(a, b, one), "(a ...)"}, {usual(length(2)), cons(a, b, one), "(a b . 1)"}, {usual(level(1)), cons(a, vector(b)), "(a . #)"}, {usual(level(2)), list(vector(list(a), b)), "(#(# b))"}, {usual(length(1)), vector(a, b), "#(a ...)"}, {usual(length(2)), vector(a, b), "#(a b)"}, {usual(length(0)), vector(), "#()"}, {usual(level(0), length(0)), bits("01"), "#*01"}, {usual(level(1), circle), list(label("1", list(a)), ref("1")), "(#0=# #0#)"},
		// arrays
		{usual(), square, "#2A((1 2) (3 4))"}, {usual(), array("", a), "#0Aa"}, {usual(), array("", list(a)), "#0A(a)"}, {usual(), array("2 0"), "#2A(() ())"}, {usual(), array("0 2"), "#2A()"}, {usual(), array("1 2 2", one, two, three, a), "#3A(((1 2) (3 a)))"}, {usual(), array("2 1 0"), "#3A((()) (()))"}, {usual(level(0)), square, "#2A#"}, {usual(level(1)), square, "#2A(# #)"}, {usual(level(2)), square, "#2A((1 2) (3 4))"}, {usual(level(2)), array("1 1", list(a)), "#2A((#))"}, {usual(length(1)), square, "#2A((1 ...) ...)"}, {usual(length(0)), square, "#2A(...)"}, {usual(level(0)), array("", list(a)), "#0A#"}, {usual(level(0)), array("", a), "#0Aa"}, {usual(length(1), level(2)), array("2000 2000 2000 2000 2000 2000 0"), "#7A((# ...) ...)"},
		{usual(names), list(bits("1"), vector(a), square, array("", a)), "(#<BIT-VECTOR> #<VECTOR> #<ARRAY> #<ARRAY>)"}, {usual(names, level(0)), vector(a), "#<VECTOR>"}, {usual(names, circle), list(label("1", vector(ref("1"))), ref("1")), "(#0=#<VECTOR> #0#)"},
		// labels
		{usual(circle), label("5", cons(a, ref("5"))), "#0=(a . #0#)"}, {usual(circle), list(label("1", list(a)), ref("1")), "(#0=(a) #0#)"}, {usual(), list(label("1", list(a)), ref("1")), "((a) (a))"}, {usual(circle), list(label("1", a), ref("1")), "(a a)"}, {usual(circle), list(list(a), list(a)), "((a) (a))"}, {usual(circle), cons(a, label("2", cons(b, ref("2")))), "(a . #0=(b . #0#))"}, {usual(circle), cons(label("2", str("x")), ref("2")), "(#0=\"x\" . #0#)"}, {usual(), cons(a, label("2", list(b))), "(a b)"}, {usual(circle), label("1", vector(ref("1"), label("2", vector(ref("2"))))), "#0=#(#0# #1=#(#1#))"}, {usual(circle), label("7", array("1 1", ref("7"))), "#0=#2A((#0#))"}, {usual(circle), label("1", call("QUOTE", ref("1"))), "#0='#0#"}, {usual(circle), cons(lisp("QUOTE"), label("1", list(a, ref("1")))), "(quote . #0=(a #0#))"},
	} {
		if got, e := printer.Print(c.o, c.f); got != c.want || e != api.OK {
			t.Errorf("Print(%v) = %q, %v; want %q", c.f, got, e, c.want)
		}
	}
}

// P8.1: errors, in their order.
func TestPrintErrors(t *testing.T) {
	a := user("A")
	circular := label("5", cons(a, ref("5")))
	noEscape := kind('\\', token.Constituent)
	noBar := kind('|', token.Constituent)
	nan := node(api.FormSingle, "7fc00000")
	shared := list(label("1", vector(many(1500)...)), ref("1"))
	for i, c := range []struct {
		o    printer.Options
		f    api.Form
		want api.Errno
	}{
		{usual(), api.Form{}, api.ErrForm}, {usual(), vector(many(2000)...), api.ErrSize}, {usual(circle), list(label("1", a), label("1", a)), api.ErrTwice}, {usual(), ref("1"), forms.ErrLabel}, {usual(readable, kind('a', token.Single)), api.Form{}, api.ErrForm},
		// readtables with which nothing can be read back
		{usual(readable, kind('a', token.Single)), circular, printer.ErrReadable}, {usual(readable, kind('z', token.White)), a, printer.ErrReadable}, {usual(readable, kind('A', token.White)), a, printer.ErrReadable}, {usual(readable, kind('Z', token.White)), a, printer.ErrReadable}, {usual(readable, kind('0', token.White)), a, printer.ErrReadable}, {usual(readable, kind('9', token.Invalid)), a, printer.ErrReadable}, {usual(readable, kind('.', token.White)), a, printer.ErrReadable}, {usual(readable, kind(':', token.White)), a, printer.ErrReadable}, {usual(readable, kind('+', token.White)), a, printer.ErrReadable}, {usual(readable, kind('-', token.White)), a, printer.ErrReadable}, {usual(readable, kind('/', token.White)), a, printer.ErrReadable}, {usual(readable, kind('(', token.Nonterminating)), a, printer.ErrReadable}, {usual(readable, kind('#', token.Terminating)), a, printer.ErrReadable}, {usual(readable, kind('\n', token.Constituent)), a, printer.ErrReadable}, {usual(readable, kind(' ', token.Terminating)), a, printer.ErrReadable},
		{usual(), circular, forms.ErrCircle}, {usual(), shared, api.ErrSize}, {usual(), list(nan, circular), forms.ErrCircle},
		// what is found first in the text
		{usual(), nan, api.ErrForm}, {usual(), list(nan, str("\"")), api.ErrForm}, {usual(noEscape), list(nan, str("\"")), api.ErrForm}, {usual(noEscape), list(str("\""), nan), printer.ErrReadable}, {usual(noBar), list(user("a"), nan), api.ErrNone}, {usual(noBar, length(0)), list(user("a"), nan), api.OK}, {usual(noBar, level(0)), list(user("a"), nan), api.OK}, {usual(noBar), vector(forms.Symbol("Q", ""), user("a")), api.ErrArg}, {usual(), list(user(long(4001)), nan), api.ErrSize}, {usual(bare), list(str(long(60000)), str(long(60000)), nan), api.ErrLarge}, {usual(bare), list(str(long(60000)), nan, str(long(60000))), api.ErrForm}, {usual(noBar), mark("BACKQUOTE", mark("COMMA", user("a"))), api.ErrNone}, {usual(), node(api.FormRatio, "1000000000000000000000/20"), api.ErrForm}, {usual(), node(api.FormComplex, "", nan, nan), api.ErrForm}, {usual(), array("2000 2000 2000 2000 2000 2000 0"), api.ErrLarge}, {usual(), integer(strings.Repeat("9", 20001)), api.ErrLarge},
		{usual(readable, names), vector(), printer.ErrReadable}, {usual(readable, names), list(bits("")), printer.ErrReadable}, {usual(readable, names), array("", a), printer.ErrReadable}, {usual(readable, names), list(a), api.OK}, {usual(readable, names, level(0)), list(vector()), api.OK}, {usual(readable), array("0 2"), printer.ErrReadable}, {usual(readable, level(0)), array("0 2"), printer.ErrReadable}, {usual(readable), array("2 0 2"), printer.ErrReadable}, {usual(readable), array("2 0 0"), api.OK}, {usual(readable), array("0 0 1"), printer.ErrReadable}, {usual(readable), list(array("0 2"), nan), printer.ErrReadable}, {usual(readable), list(nan, array("0 2")), api.ErrForm},
		{usual(readable, kind('$', token.Single), kind('\x01', token.White), kind('é', token.Terminating), kind('|', token.Constituent), kind('*', token.White)), list(bits("1"), a), api.OK},
	} {
		got, e := printer.Print(c.o, c.f)
		if e != c.want || (got == "") != (e != api.OK) {
			t.Errorf("%d: Print(%s) = %.80q, %v; want %v", i, short(c.f), got, e, c.want)
		}
		if lines, f := printer.Lines(c.o, []api.Form{c.f}); f != e || e == api.OK && lines != got+"\n" || e != api.OK && lines != "" {
			t.Errorf("%d: Lines = %.80q, %v", i, lines, f)
		}
	}
	// a complex number that stands for references makes the normal form too large
	pair := node(api.FormComplex, "", integer("1"), integer("1"))
	refs := []api.Form{label("1", pair)}
	for range 1990 {
		refs = append(refs, ref("1"))
	}
	if got, e := printer.Print(usual(circle), vector(refs...)); got != "" || e != api.ErrSize {
		t.Errorf("a complex number of many places: %.50q, %v", got, e)
	}
	if got, e := printer.Print(usual(bare), list(str(long(50000)), str(long(49997)))); len(got) != 100000 || e != api.OK {
		t.Errorf("the longest text: %d bytes, %v", len(got), e)
	}
	if got, e := printer.Print(usual(bare), list(str(long(50000)), str(long(49998)))); got != "" || e != api.ErrLarge {
		t.Errorf("a text that is too long: %d bytes, %v", len(got), e)
	}
}

// many returns so many integers.
func many(n int) []api.Form {
	var l []api.Form
	for range n {
		l = append(l, integer("1"))
	}
	return l
}

// P8.1: the usual text, and lines.
func TestText(t *testing.T) {
	f := list(lisp("CAR"), user("x"), forms.Symbol("P", "Y"), label("1", str("a")), ref("1"))
	for escape, want := range map[bool]string{true: "(car |x| p::y #0=\"a\" #0#)", false: "(car x y #0=a #0#)"} {
		if got, e := printer.Text(f, escape); got != want || e != api.OK {
			t.Errorf("Text = %q, %v; want %q", got, e, want)
		}
	}
	if got, e := printer.Text(api.Form{}, true); got != "" || e != api.ErrForm {
		t.Errorf("Text of no form = %q, %v", got, e)
	}
	o := usual()
	if got, e := printer.Lines(o, nil); got != "" || e != api.OK {
		t.Errorf("Lines of nothing = %q, %v", got, e)
	}
	if got, e := printer.Lines(o, []api.Form{integer("1"), str("a\nb"), f}); got != "1\n\"a\nb\"\n(car |x| p::y \"a\" \"a\")\n" || e != api.OK {
		t.Errorf("Lines = %q, %v", got, e)
	}
	big := str(long(60000))
	if got, e := printer.Lines(o, []api.Form{integer("1"), api.Form{}, ref("1")}); got != "" || e != api.ErrForm {
		t.Errorf("Lines with an error = %q, %v", got, e)
	}
	if got, e := printer.Lines(o, []api.Form{big, big}); got != "" || e != api.ErrLarge {
		t.Errorf("long Lines = %d bytes, %v", len(got), e)
	}
	if got, e := printer.Lines(o, []api.Form{big, big, ref("1")}); got != "" || e != forms.ErrLabel {
		t.Errorf("long Lines with an error behind = %d bytes, %v", len(got), e)
	}
	if got, e := printer.Lines(usual(bare), []api.Form{str(long(50000)), str(long(49998))}); len(got) != 100000 || e != api.OK {
		t.Errorf("the longest Lines = %d bytes, %v", len(got), e)
	}
}

// P8.1: numbers are those of layer 5.
func TestNumbers(t *testing.T) {
	for _, f := range []api.Form{integer("0"), integer("-255"), node(api.FormRatio, "-1/3"), node(api.FormSingle, "80000000"), node(api.FormDouble, "3fb999999999999a"), node(api.FormComplex, "", node(api.FormSingle, "3f800000"), node(api.FormSingle, "3f800000"))} {
		for _, n := range []int{2, 8, 10, 16, 36} {
			for _, r := range []bool{false, true} {
				o := usual(base(n), func(o *printer.Options) { o.Radix, o.Double = r, !r })
				want, _ := number.Print(f, n, r, !r)
				if got, e := printer.Print(o, f); got != want || e != api.OK {
					t.Errorf("Print(%v) in the base %d = %q, %v; want %q", f, n, got, e, want)
				}
			}
		}
	}
}
