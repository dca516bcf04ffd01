package reader_test

import (
	"slices"
	"strings"
	"testing"

	"commonform/api"
	"commonform/forms"
	"commonform/reader"
	"commonform/token"
)

// P7.1: forms, and where they begin and end.
func TestForms(t *testing.T) {
	a, b, c, one, two := sym("A"), sym("B"), sym("C"), integer("1"), integer("2")
	quote := func(f api.Form) api.Form { return list(lisp("QUOTE"), f) }
	for _, x := range []struct {
		s        string
		want     api.Form
		from, to int
	}{
		// tokens
		{"a", a, 0, 1}, {" Foo ", sym("FOO"), 1, 4}, {"|foo|", sym("foo"), 0, 5}, {"||", sym(""), 0, 2}, {":k", key("K"), 0, 2}, {":||", key(""), 0, 3}, {"q:x", forms.Symbol("Q", "X"), 0, 3}, {"q::x", forms.Symbol("Q", "X"), 0, 4}, {"p:a", a, 0, 3}, {"keyword:a", key("A"), 0, 9}, {"\\.", sym("."), 0, 2}, {".a", sym(".A"), 0, 2}, {"a.", sym("A."), 0, 2}, {"+", sym("+"), 0, 1}, {"1+", sym("1+"), 0, 2}, {"é", sym("é"), 0, 2}, {"nil", sym("NIL"), 0, 3},
		{"12", integer("12"), 0, 2}, {"+12.", integer("12"), 0, 4}, {"-06/4", node(api.FormRatio, "-3/2"), 0, 5}, {"1.5", node(api.FormSingle, "3fc00000"), 0, 3}, {"1d0", node(api.FormDouble, "3ff0000000000000"), 0, 3}, {"1\\2", sym("12"), 0, 3}, {"|12|", sym("12"), 0, 4}, {"12||", sym("12"), 0, 4}, {"ff", sym("FF"), 0, 2},
		// strings and quotes
		{"\"\"", str(""), 0, 2}, {"\"a b\n;#|\"", str("a b\n;#|"), 0, 9}, {"\"\\\"\\\\\\a|\"", str("\"\\a|"), 0, 9}, {"\"é\x01\"", str("é\x01"), 0, 5}, {"'a", quote(a), 0, 2}, {"' a", quote(a), 0, 3}, {"''a", quote(quote(a)), 0, 3}, {"'()", quote(forms.Nil()), 0, 3}, {"#'a", list(lisp("FUNCTION"), a), 0, 3},
		// lists
		{"()", forms.Nil(), 0, 2}, {"( )", forms.Nil(), 0, 3}, {"(a)", list(a), 0, 3}, {"(a b)c", list(a, b), 0, 5}, {"(a(b)c)", list(a, list(b), c), 0, 7}, {"(a . b)", cons(a, b), 0, 7}, {"(a .b)", list(a, sym(".B")), 0, 6}, {"(a b . (c))", list(a, b, c), 0, 11}, {"(a . (b . (c . ())))", list(a, b, c), 0, 20}, {"(a . #(b))", cons(a, vector(b)), 0, 10}, {"(a . b;c\n #|d|# )", cons(a, b), 0, 17}, {"(a .(b))", list(a, b), 0, 8}, {"(a .\"b\")", cons(a, str("b")), 0, 8}, {"(a \\. b)", list(a, sym("."), b), 0, 8}, {"(a |.| b)", list(a, sym("."), b), 0, 9},
		{"(;a\n)", forms.Nil(), 0, 5}, {"(a #|b|#)", list(a), 0, 9}, {"(a #|b|# . c)", cons(a, c), 0, 13}, {"(a ;b\n . ;c\n d;e\n)", cons(a, sym("D")), 0, 18}, {"(#+none a)", forms.Nil(), 0, 10}, {"(a #+none b)", list(a), 0, 12}, {"(a #+none b . c)", cons(a, c), 0, 16}, {"(a . #+none b c)", cons(a, c), 0, 16}, {"(#+none a #-none b)", list(b), 0, 19},
		// backquotes
		{"`a", back(a), 0, 2}, {"`(a ,b ,@c)", back(list(a, comma(b), splice(c))), 0, 11}, {"`(a . ,b)", back(cons(a, mark("COMMA"), b, forms.Nil())), 0, 9}, {"`,@a", back(splice(a)), 0, 4}, {"`, @a", back(comma(sym("@A"))), 0, 5}, {"`,a", back(comma(a)), 0, 3}, {"``,,a", back(back(comma(comma(a)))), 0, 5}, {"`(,`,a ,b)", back(list(comma(back(comma(a))), comma(b))), 0, 10}, {"`#(,a)", back(vector(comma(a))), 0, 6},
		// characters
		{"#\\a", char("a"), 0, 3}, {"#\\A", char("A"), 0, 3}, {"#\\a b", char("a"), 0, 3}, {"#\\space", char(" "), 0, 7}, {"#\\SPACE", char(" "), 0, 7}, {"#\\ ", char(" "), 0, 3}, {"#\\\n", char("\n"), 0, 3}, {"#\\(", char("("), 0, 3}, {"#\\)", char(")"), 0, 3}, {"#\\;", char(";"), 0, 3}, {"#\\\"", char("\""), 0, 3}, {"#\\#", char("#"), 0, 3}, {"#\\\\", char("\\"), 0, 3}, {"#\\|", char("|"), 0, 3}, {"#\\1", char("1"), 0, 3}, {"#\\.", char("."), 0, 3}, {"#\\é", char("é"), 0, 4}, {"#\\u0041", char("A"), 0, 7}, {"#\\a(", char("a"), 0, 3}, {"#\\a\x01", char("a"), 0, 3}, {"#\\\x01", char("\x01"), 0, 3}, {"#\\a||", char("a"), 0, 5}, {"#\\spa\\ce", char(" "), 0, 8}, {"#\\s|PACE|", char(" "), 0, 9}, {"#\\(()", char("("), 0, 3},
		// vectors and bits
		{"#()", vector(), 0, 3}, {"#(1 2)", vector(one, two), 0, 6}, {"#3(1 2)", vector(one, two, two), 0, 7}, {"#2(1 2)", vector(one, two), 0, 7}, {"#0()", vector(), 0, 4}, {"#002(a)", vector(a, a), 0, 7}, {"#(a ;b\n)", vector(a), 0, 8}, {"#2((a))", vector(list(a), list(a)), 0, 7}, {"#2(#1=a b)", vector(label("1", a), b), 0, 10}, {"#3(#1=a b)", vector(label("1", a), b, b), 0, 10}, {"#2(#+none #1=a b)", vector(b, b), 0, 17}, {"#(#1=(a) #1#)", vector(label("1", list(a)), ref("1")), 0, 13}, {"(#1=(a) #3(#1#))", list(label("1", list(a)), vector(ref("1"), ref("1"), ref("1"))), 0, 16},
		{"#*", bits(""), 0, 2}, {"#*101", bits("101"), 0, 5}, {"#* 1", bits(""), 0, 2}, {"#*(1)", bits(""), 0, 2}, {"#*#", bits(""), 0, 2}, {"#5*101", bits("10111"), 0, 6}, {"#4*10", bits("1000"), 0, 5}, {"#3*01", bits("011"), 0, 5}, {"#3*101", bits("101"), 0, 6}, {"#0*", bits(""), 0, 3}, {"#*\x01", bits(""), 0, 2},
		// symbols without a home, numbers in other bases
		{"#:g", forms.Symbol("", "G"), 0, 3}, {"#:", forms.Symbol("", ""), 0, 2}, {"#: a", forms.Symbol("", ""), 0, 2}, {"#:||", forms.Symbol("", ""), 0, 4}, {"#:a\\:b", forms.Symbol("", "A:B"), 0, 6}, {"#:12", forms.Symbol("", "12"), 0, 4}, {"#:..", forms.Symbol("", ".."), 0, 4}, {"#:#a", forms.Symbol("", ""), 0, 2},
		{"#b101", integer("5"), 0, 5}, {"#O17", integer("15"), 0, 4}, {"#x-ff", integer("-255"), 0, 5}, {"#Xff/10", node(api.FormRatio, "255/16"), 0, 7}, {"#3r102", integer("11"), 0, 6}, {"#36RzZ", integer("1295"), 0, 6}, {"#2r1", integer("1"), 0, 4}, {"#b10.", integer("10"), 0, 5}, {"#x4/2", integer("2"), 0, 5},
		{"#c(1 2)", node(api.FormComplex, "", one, two), 0, 7}, {"#C(1 0)", one, 0, 7}, {"#c(1 2.0)", node(api.FormComplex, "", node(api.FormSingle, "3f800000"), node(api.FormSingle, "40000000")), 0, 9}, {"#c (1/2 #xf)", node(api.FormComplex, "", node(api.FormRatio, "1/2"), integer("15")), 0, 12}, {"#c(1 . (2))", node(api.FormComplex, "", one, two), 0, 11}, {"#c;x\n(1 2)", node(api.FormComplex, "", one, two), 0, 10},
		// arrays
		{"#2a((1 2) (3 4))", node(api.FormArray, "2 2", one, two, integer("3"), integer("4")), 0, 16}, {"#0a a", node(api.FormArray, "", a), 0, 5}, {"#0a(1)", node(api.FormArray, "", list(one)), 0, 6}, {"#1a(1 2)", vector(one, two), 0, 8}, {"#1A\"ab\"", vector(char("a"), char("b")), 0, 7}, {"#2a(\"ab\" #*10 #(1 2) (a . (b)))", node(api.FormArray, "4 2", char("a"), char("b"), one, integer("0"), one, two, a, b), 0, 31}, {"#2a()", node(api.FormArray, "0 0"), 0, 5}, {"#3a(() ())", node(api.FormArray, "2 0 0"), 0, 10}, {"#2a((#1=(a) #1#))", node(api.FormArray, "1 2", label("1", list(a)), ref("1")), 0, 17}, {"#1=#2a((#1#))", label("1", node(api.FormArray, "1 1", ref("1"))), 0, 13}, {"#0a#1=(a)", node(api.FormArray, "", label("1", list(a))), 0, 9},
		// comments and features
		{";a\nb", b, 3, 4}, {"#|a|#b", b, 5, 6}, {"#|a#|b|#c|#d", sym("D"), 11, 12}, {"#||#a", a, 4, 5}, {"#|||#a", a, 5, 6}, {"#|#||#|#a", a, 8, 9}, {"#|\"|#a", a, 5, 6}, {"#+small a b", a, 0, 9}, {"#-small a b", b, 10, 11}, {"#+none a b", b, 9, 10}, {"#-none a", a, 0, 8}, {"#+ small a", a, 0, 10}, {"'#+none a b", quote(b), 0, 11}, {"#+none #-none a b c", b, 16, 17}, {"#+none #+none a b c", c, 18, 19}, {"#+#-none small a", a, 0, 16}, {"#+(or none :small) a", a, 0, 20}, {"#+(and small (not none)) a", a, 0, 26}, {"#+keyword:small a", a, 0, 17}, {"#+|small| a b", b, 12, 13}, {"#+none #1=a #1=b", label("1", b), 12, 16}, {"#+small;x\n#|y|#a", a, 0, 16},
		// labels
		{"#1=a", label("1", a), 0, 4}, {"#001=(a . #1#)", label("1", cons(a, ref("1"))), 0, 14}, {"(#1=a #1#)", list(label("1", a), ref("1")), 0, 10}, {"#999=(#0=a #0# #999#)", label("999", list(label("0", a), ref("0"), ref("999"))), 0, 21}, {"(a . #1=(b . #1#))", cons(a, label("1", cons(b, ref("1")))), 0, 18}, {"#1='#1#", label("1", quote(ref("1"))), 0, 7}, {"(#1=a . #1#)", cons(label("1", a), ref("1")), 0, 12}, {"#1=#+none b a", label("1", a), 0, 13},
	} {
		r, at, e := reader.Read(options(), x.s, 0)
		if !forms.Equal(r.Form, x.want) || r.From != x.from || r.To != x.to || at != 0 || e != api.OK {
			t.Errorf("Read(%q) = %v, %d, %v; want %v from %d to %d", x.s, r, at, e, x.want, x.from, x.to)
		}
	}
}

// P7.1: the codes and places of errors, in the order in which they are met.
func TestErrors(t *testing.T) {
	for _, x := range []struct {
		s    string
		at   int
		want api.Errno
	}{
		{"", 0, api.ErrNone}, {"  ", 2, api.ErrNone}, {" ;x", 3, api.ErrNone}, {"#|x|#\n", 6, api.ErrNone}, {"#+none a", 8, api.ErrNone}, {"#+none a ;b", 11, api.ErrNone},
		{"(a b", 4, api.ErrEnd}, {"(", 1, api.ErrEnd}, {"(a .", 4, api.ErrEnd}, {"(a . b", 6, api.ErrEnd}, {"(a . b ", 7, api.ErrEnd}, {"'", 1, api.ErrEnd}, {"' ", 2, api.ErrEnd}, {"\"a", 2, api.ErrEnd}, {"\"a\\", 3, api.ErrEnd}, {"|a", 2, api.ErrEnd}, {"a\\", 2, api.ErrEnd}, {"#", 1, api.ErrEnd}, {"#12", 3, api.ErrEnd}, {"#|a", 3, api.ErrEnd}, {"#|a#|b|#", 8, api.ErrEnd}, {"#|#", 3, api.ErrEnd}, {"#||", 3, api.ErrEnd}, {"#\\", 2, api.ErrEnd}, {"#\\a\\", 4, api.ErrEnd}, {"#\\ab|", 5, api.ErrEnd}, {"#'", 2, api.ErrEnd}, {"#(a", 3, api.ErrEnd}, {"#:|a", 4, api.ErrEnd}, {"#*\\", 3, api.ErrEnd}, {"#c", 2, api.ErrEnd}, {"#2a", 3, api.ErrEnd}, {"#+small", 7, api.ErrEnd}, {"#+", 2, api.ErrEnd}, {"#+none a'", 9, api.ErrEnd}, {"#1=", 3, api.ErrEnd}, {"`", 1, api.ErrEnd}, {"`,", 2, api.ErrEnd}, {"`,@", 3, api.ErrEnd}, {"(a #|b", 6, api.ErrEnd}, {"(a . b #|", 9, api.ErrEnd}, {"('", 2, api.ErrEnd}, {"(#+none a", 9, api.ErrEnd},
		{"\x01", 0, token.ErrInvalid}, {" a\x01", 1, token.ErrInvalid}, {"(a \x7f)", 3, token.ErrInvalid}, {"'\x00", 1, token.ErrInvalid}, {"..", 0, token.ErrDots}, {"(a ...)", 3, token.ErrDots}, {".", 0, token.ErrDots}, {"'.", 1, token.ErrDots}, {"(a . .)", 5, token.ErrDots}, {"(a . . b)", 5, token.ErrDots}, {"(a '. b)", 4, token.ErrDots}, {"a:b:c", 0, token.ErrMarker}, {"(a b: c)", 3, token.ErrMarker}, {":", 0, token.ErrMarker}, {"1/0", 0, api.ErrZero}, {"(1 2/0)", 3, api.ErrZero}, {"1e99", 0, api.ErrOver}, {"x 1e99", 0, api.OK},
		{")", 0, reader.ErrClose}, {" )", 1, reader.ErrClose}, {"')", 1, reader.ErrClose}, {"(a . )", 5, reader.ErrClose}, {"(a . #+none b)", 13, reader.ErrClose}, {"#+none a )", 9, reader.ErrClose}, {"(a ')", 4, reader.ErrClose}, {"#+)", 2, reader.ErrClose}, {"(#1=)", 4, reader.ErrClose},
		{",x", 0, reader.ErrComma}, {"`(,,x)", 3, reader.ErrComma}, {"(a ,b)", 3, reader.ErrComma}, {"`,,@x", 2, reader.ErrComma}, {"(`a ,b)", 4, reader.ErrComma}, {"(`,a ,b)", 5, reader.ErrComma}, {"(`(,@a) ,b)", 8, reader.ErrComma}, {",)", 0, reader.ErrComma},
		{"(. a)", 1, reader.ErrDot}, {"(.)", 1, reader.ErrDot}, {"( . )", 2, reader.ErrDot}, {"(a . b c)", 3, reader.ErrDot}, {"(a . b . c)", 3, reader.ErrDot}, {"(a . b #+none c)", 3, reader.ErrDot}, {"(a . b ')", 3, reader.ErrDot}, {"(a . b \x01)", 3, reader.ErrDot}, {"#(a . b)", 4, reader.ErrDot}, {"#(.)", 2, reader.ErrDot}, {"#1(. a)", 3, reader.ErrDot}, {"(#+none a . b)", 10, reader.ErrDot}, {"(;a\n. b)", 4, reader.ErrDot},
		{"#<a", 0, reader.ErrHash}, {"(a #<b)", 3, reader.ErrHash}, {"#)", 0, reader.ErrHash}, {"# ", 0, reader.ErrHash}, {"#\n", 0, reader.ErrHash}, {"#.a", 0, reader.ErrHash}, {"#é", 0, reader.ErrHash}, {"#1234=a", 0, reader.ErrHash}, {"#0001", 0, reader.ErrHash}, {"#1234", 0, reader.ErrHash}, {"#2'x", 0, reader.ErrHash}, {"#1\\a", 0, reader.ErrHash}, {"#1\\", 0, reader.ErrHash}, {"#1:a", 0, reader.ErrHash}, {"#2b1", 0, reader.ErrHash}, {"#8o1", 0, reader.ErrHash}, {"#16x1", 0, reader.ErrHash}, {"#2c(1 2)", 0, reader.ErrHash}, {"#1|a|#", 0, reader.ErrHash}, {"#1+small a", 0, reader.ErrHash}, {"#1-small a", 0, reader.ErrHash}, {"#r1", 0, reader.ErrHash}, {"#1r0", 0, reader.ErrHash}, {"#0r0", 0, reader.ErrHash}, {"#37r0", 0, reader.ErrHash}, {"#a(1)", 0, reader.ErrHash}, {"#=a", 0, reader.ErrHash}, {"##", 0, reader.ErrHash}, {"#\"a\"", 0, reader.ErrHash}, {"#,a", 0, reader.ErrHash},
		{"#\\foo", 0, reader.ErrChar}, {"('#\\ab)", 2, reader.ErrChar}, {"#\\ a", 0, reader.ErrChar}, {"#\\a#b", 0, reader.ErrChar}, {"#\\##", 0, reader.ErrChar}, {"#\\ud800", 0, reader.ErrChar}, {"#\\a|b|", 0, reader.ErrChar}, {"#\\Space\\ ", 0, reader.ErrChar}, {"#\\\\a", 0, reader.ErrChar},
		{"#1(a b)", 0, reader.ErrShape}, {"#0(a)", 0, reader.ErrShape}, {"#1()", 0, reader.ErrShape}, {"#2*101", 0, reader.ErrShape}, {"#1*", 0, reader.ErrShape}, {"#0*1", 0, reader.ErrShape}, {"#2(#1=a)", 0, reader.ErrShape}, {"#3(b (#1=a))", 0, reader.ErrShape}, {"(#2a((1) (2 3)))", 1, reader.ErrShape}, {"#1a5", 0, reader.ErrShape}, {"#1a#1=(a)", 0, reader.ErrShape}, {"#2a(a)", 0, reader.ErrShape}, {"#1a(a . b)", 0, reader.ErrShape}, {"#3a((()) ())", 0, reader.ErrShape},
		{"#8a()", 0, api.ErrArg}, {"#999a()", 0, api.ErrArg}, {"#*12", 0, api.ErrForm}, {"#*1a", 0, api.ErrForm}, {"#*|1|", 0, api.ErrForm}, {"#*1||", 0, api.ErrForm}, {"#3*a", 0, api.ErrForm}, {"#xg", 0, api.ErrForm}, {"#x", 0, api.ErrForm}, {"#x 1", 0, api.ErrForm}, {"#x|1|", 0, api.ErrForm}, {"#x1\\1", 0, api.ErrForm}, {"#x1.5", 0, api.ErrForm}, {"#b2", 0, api.ErrForm}, {"#b(1)", 0, api.ErrForm}, {"#x1/0", 0, api.ErrZero}, {"#b1e99", 0, api.ErrOver}, {"#b|1/0|", 0, api.ErrForm}, {"#c(1)", 0, api.ErrForm}, {"#c(1 2 3)", 0, api.ErrForm}, {"#c1", 0, api.ErrForm}, {"#c()", 0, api.ErrForm}, {"#c(1 a)", 0, api.ErrForm}, {"#c(#c(1 2) 3)", 0, api.ErrForm}, {"#c(1 . 2)", 0, api.ErrForm}, {"#c(1 2 . 3)", 0, api.ErrForm}, {"#c#(1 2)", 0, api.ErrForm}, {"#c(#1=1 2)", 0, api.ErrForm}, {"#c#1=(1 2)", 0, api.ErrForm}, {"(#1=1 #c(#1# 2))", 6, api.ErrForm}, {"#c(1d0 1" + strings.Repeat("0", 400) + ")", 0, api.ErrOver},
		{"#:a:b", 0, token.ErrMarker}, {"(#::a)", 1, token.ErrMarker}, {"(#:a\x01)", 1, token.ErrInvalid}, {"(#\\ab\x01)", 1, token.ErrInvalid}, {"(#x1\x01)", 1, token.ErrInvalid}, {"(#*1\x01)", 1, token.ErrInvalid}, {"'#'(a \x01)", 6, token.ErrInvalid},
		{"#+(xor) a b", 0, api.ErrForm}, {"(#+1 a)", 1, api.ErrForm}, {"#+() a", 0, api.ErrForm}, {"#+p::small a", 0, api.ErrForm}, {"#+(not) a", 0, api.ErrForm}, {"#+(or small 1) )", 0, api.ErrForm}, {"#+none ) a", 7, reader.ErrClose}, {"#+none (a . b c) d", 10, reader.ErrDot}, {"#+none ,a b", 7, reader.ErrComma}, {"#+#1=small #1# a", 0, api.ErrForm}, {"#+#-none small #1=a #1=b", 0, api.OK},
		{"#1#", 0, forms.ErrLabel}, {"(a #1#)", 3, forms.ErrLabel}, {"(#1# #1=a)", 1, forms.ErrLabel}, {"#1=#1#", 0, forms.ErrLabel}, {"(#1=a #2=#1#)", 6, forms.ErrLabel}, {"#1=#2=a", 0, forms.ErrLabel}, {"(#1=a #1=b)", 6, api.ErrTwice}, {"#1=(#1=a)", 4, api.ErrTwice}, {"(#1=a #01=b)", 6, api.ErrTwice}, {"#1=(a #1=", 6, api.ErrTwice}, {"(#+none #1=a #1#)", 13, forms.ErrLabel},
	} {
		r, at, e := reader.Read(options(), x.s, 0)
		if x.want == api.OK {
			at = x.at
		}
		if at != x.at || e != x.want || e != api.OK && !empty(r) {
			t.Errorf("Read(%.40q) = %v, %d, %v; want the error %v at %d", x.s, r, at, e, x.want, x.at)
		}
	}
}

// P7.1: readtables, bases and packages.
func TestOptions(t *testing.T) {
	a, b := sym("A"), sym("B")
	hexadecimal, doubles := options(), options()
	hexadecimal.Base, doubles.Double = 16, true
	small := options()
	small.Table.Case = token.Preserve
	for _, x := range []struct {
		o    reader.Options
		s    string
		want api.Form
		to   int
	}{
		{hexadecimal, "ff", integer("255"), 2}, {hexadecimal, "10.", integer("10"), 3}, {hexadecimal, "#b10", integer("2"), 4}, {hexadecimal, "#2(a)", vector(integer("10"), integer("10")), 5}, {doubles, "1.5", node(api.FormDouble, "3ff8000000000000"), 3}, {doubles, "1f0", node(api.FormSingle, "3f800000"), 3}, {doubles, "#c(1.5 0)", node(api.FormComplex, "", node(api.FormDouble, "3ff8000000000000"), node(api.FormDouble, "0000000000000000")), 9},
		{small, "aB", sym("aB"), 2}, {small, "#XfF", integer("255"), 4}, {small, "#\\Space", char(" "), 7}, {small, ":a", key("a"), 2}, {small, "1E2", node(api.FormSingle, "42c80000"), 3},
		// characters of other kinds: what is no macro character is part of a token
		{with(map[rune]int{'\'': token.Constituent}), "a'b", sym("A'B"), 3}, {with(map[rune]int{'\'': token.Nonterminating}), "'a", list(lisp("QUOTE"), a), 2}, {with(map[rune]int{'\'': token.Nonterminating}), "a'b", sym("A'B"), 3}, {with(map[rune]int{'#': token.Terminating}), "a#'b", a, 1}, {with(map[rune]int{'#': token.Constituent}), "#|a|#b", sym("#a#B"), 6}, {with(map[rune]int{';': token.Constituent}), ";a", sym(";A"), 2}, {with(map[rune]int{';': token.Nonterminating}), "a;b", sym("A;B"), 3}, {with(map[rune]int{')': token.Nonterminating}), "(a b) )", list(a, sym("B)")), 7}, {with(map[rune]int{')': token.Constituent}), "a)", sym("A)"), 2},
		{with(map[rune]int{'!': token.Single, '\\': token.Constituent}), "\"!\"\\\"", str("\"\\"), 5}, {with(map[rune]int{'$': token.Multiple}), "$a b$", sym("a b"), 5}, {with(map[rune]int{'_': token.White}), "(a_b)", list(a, b), 5}, {with(map[rune]int{'_': token.White}), "#\\_", char("_"), 3}, {with(map[rune]int{'_': token.Terminating}), "#\\a_", char("a"), 3}, {with(map[rune]int{'@': token.White}), "`,@a", back(splice(a)), 4}, {with(map[rune]int{'.': token.Nonterminating}), "a.b", sym("A.B"), 3}, {with(map[rune]int{':': token.White}), "#:a", forms.Symbol("", "A"), 3}, {with(map[rune]int{'1': token.Terminating}), "#1=#1(a)", label("1", vector(a)), 8}, {with(map[rune]int{'u': token.Nonterminating}), "#\\tub", api.Form{}, 0}, {with(map[rune]int{'a': token.Nonterminating}), "#\\Tab", char("\t"), 5}, {with(map[rune]int{'*': token.Invalid}), "#*1", bits("1"), 3},
	} {
		r, _, e := reader.Read(x.o, x.s, 0)
		want := api.OK
		if x.want.Kind == 0 {
			want = reader.ErrChar
		}
		if !forms.Equal(r.Form, x.want) || r.To != x.to || e != want {
			t.Errorf("Read(%v, %q) = %v, %v; want %v to %d", x.o.Table, x.s, r, e, x.want, x.to)
		}
	}
	for _, x := range []struct {
		o    reader.Options
		s    string
		at   int
		want api.Errno
	}{
		{with(map[rune]int{'$': token.Terminating}), "(a $)", 3, reader.ErrMacro}, {with(map[rune]int{'$': token.Nonterminating}), "(a$ $b)", 4, reader.ErrMacro}, {with(map[rune]int{'.': token.Terminating}), "(a . b)", 3, reader.ErrMacro}, {with(map[rune]int{')': token.Constituent}), "(a )", 4, api.ErrEnd}, {with(map[rune]int{'(': token.Invalid}), "a (b", 0, api.OK}, {with(map[rune]int{'(': token.Invalid}), " (b", 1, token.ErrInvalid}, {with(map[rune]int{'"': token.Constituent}), "\"a", 0, api.OK},
	} {
		if _, at, e := reader.Read(x.o, x.s, 0); at != x.at || e != x.want {
			t.Errorf("Read(%v, %q): %d, %v; want %d, %v", x.o.Table, x.s, at, e, x.at, x.want)
		}
	}
}

// P7.1: names of characters in full readtables: one whose characters are far away, and one that leaves small letters alone.
func TestFullTables(t *testing.T) {
	far, near := options(), options()
	far.Table.Entries = []token.Entry{{Char: 'p', Kind: token.Nonterminating}}
	for i := range token.MaxEntries - 1 {
		far.Table.Entries = append(far.Table.Entries, token.Entry{Char: rune(1000 + i), Kind: token.White})
	}
	for c := '!'; c < '!'+token.MaxEntries; c++ {
		kind := token.White
		if c == '#' {
			kind = token.Terminating
		}
		near.Table.Entries = append(near.Table.Entries, token.Entry{Char: c, Kind: kind})
	}
	for _, x := range []struct {
		o    reader.Options
		s    string
		want string
		to   int
		e    api.Errno
	}{{far, "#\\space", " ", 7, api.OK}, {far, "#\\a#b", "", 0, reader.ErrChar}, {far, "#\\a##", "", 0, reader.ErrChar}, {far, "#\\a(", "a", 3, api.OK}, {near, "#\\space#", " ", 7, api.OK}, {near, "#\\aA", "a", 3, api.OK}} {
		r, _, e := reader.Read(x.o, x.s, 0)
		if r.Form.Text != x.want || r.To != x.to || e != x.e {
			t.Errorf("Read(%q) = %v, %v", x.s, r, e)
		}
	}
}

// P7.1: the symbols of a form, as they were written.
func TestReferences(t *testing.T) {
	ref := func(home, name string, external bool, at int) reader.Reference {
		return reader.Reference{Home: home, Name: name, External: external, At: at}
	}
	for s, want := range map[string][]reader.Reference{
		"a": {ref("P", "A", false, 0)}, "(a b q:c q::d :e #:f 1 nil)": {ref("P", "A", false, 1), ref("P", "B", false, 3), ref("Q", "C", true, 5), ref("Q", "D", false, 9), ref("KEYWORD", "E", false, 14), ref("P", "NIL", false, 23)},
		"'(`a . ,b)": nil, "'`(a ,b)": {ref("P", "A", false, 3), ref("P", "B", false, 6)}, "#3(a)": {ref("P", "A", false, 3)}, "(a a)": {ref("P", "A", false, 1), ref("P", "A", false, 3)}, "()": nil, "#+(or small none) a": {ref("P", "A", false, 18)}, "#+none (a b) c": {ref("P", "C", false, 13)}, "#+(and small #+none x small) (a #-small b c)": {ref("P", "A", false, 30), ref("P", "C", false, 42)}, "p:a": {ref("P", "A", true, 0)}, " |x|": {ref("P", "x", false, 1)}, "#2a((a b))": {ref("P", "A", false, 5), ref("P", "B", false, 7)},
	} {
		r, _, e := reader.Read(options(), s, 0)
		if want == nil && s != "()" {
			if e != reader.ErrComma || r.References != nil {
				t.Errorf("Read(%q) = %v, %v", s, r, e)
			}
			continue
		}
		if !slices.Equal(r.References, want) || e != api.OK {
			t.Errorf("Read(%q) has the references %v, %v; want %v", s, r.References, e, want)
		}
	}
}

// P7.1: depths. A form begins with its first character, which is no White one, no comment and not the bracket of a list.
func TestDepth(t *testing.T) {
	deep := func(n int, s string) string { return strings.Repeat("(", n) + s + strings.Repeat(")", n) }
	quotes := func(n int, s string) string { return strings.Repeat("'", n) + s }
	for _, x := range []struct {
		s    string
		at   int
		want api.Errno
	}{
		{deep(100, ""), 0, api.OK}, {deep(99, "a"), 0, api.OK}, {deep(99, "() a #|b|# ;c\n"), 0, api.OK}, {deep(100, " #|b|# ;c\n"), 0, api.OK}, {deep(100, "a"), 100, api.ErrSize}, {deep(101, ""), 100, api.ErrSize}, {deep(100, " ("), 101, api.ErrSize}, {deep(100, "\x01"), 100, api.ErrSize}, {deep(100, ".."), 100, api.ErrSize}, {deep(100, "a\\"), 100, api.ErrSize}, {deep(100, "#<"), 100, api.ErrSize}, {deep(100, "#+none a"), 100, api.ErrSize}, {deep(100, "#1|"), 100, api.ErrSize}, {deep(100, ". a"), 100, reader.ErrDot}, {deep(100, "|.|"), 100, api.ErrSize}, {strings.Repeat("(", 100), 100, api.ErrEnd}, {strings.Repeat("(", 100) + "#|", 102, api.ErrEnd},
		{quotes(99, "a"), 0, api.OK}, {quotes(100, "a"), 100, api.ErrSize}, {quotes(100, ")"), 100, api.ErrSize}, {quotes(100, ""), 100, api.ErrEnd}, {quotes(99, ")"), 99, reader.ErrClose}, {quotes(99, "()"), 0, api.OK}, {quotes(98, "#+none a b"), 0, api.OK}, {quotes(99, "#+none a b"), 101, api.ErrSize}, {quotes(98, "#+none (a) b"), 106, api.ErrSize}, {quotes(98, "#'a"), 0, api.OK}, {quotes(99, "#'a"), 101, api.ErrSize}, {quotes(99, "#\\a"), 0, api.OK}, {quotes(99, "#1=a"), 102, api.ErrSize}, {quotes(97, "#c(1 2)"), 0, api.OK}, {quotes(98, "#c(1 2)"), 101, api.ErrSize}, {quotes(97, "#2a((1))"), 102, api.ErrSize}, {quotes(99, "#()"), 0, api.OK}, {quotes(99, "#(a)"), 101, api.ErrSize}, {quotes(99, "(a . b)"), 100, api.ErrSize},
		// a form that was left out has ended
		{quotes(98, "#+none a #+none b #+none c d"), 0, api.OK},
	} {
		r, at, e := reader.Read(options(), x.s, 0)
		if at != x.at || e != x.want || e != api.OK && !empty(r) {
			t.Errorf("Read(%q) = %v, %d, %v; want %d, %v", x.s, r.Form.Kind, at, e, x.at, x.want)
		}
		if e == api.OK && forms.Check(r.Form) != api.OK {
			t.Errorf("Read(%q) is no right form: %v", x.s, forms.Check(r.Form))
		}
	}
}

// P7.1: sizes; parts that are repeated are never all made.
func TestSize(t *testing.T) {
	for _, x := range []struct {
		s    string
		at   int
		want api.Errno
	}{
		{"#999(a)", 0, api.OK}, {" (#999(a) #997(b))", 0, api.OK}, {" (#999(a) #998(b))", 1, api.ErrSize}, {" (#999(a) #999(b))", 1, api.ErrSize}, {"#+none #999((a b)) #999(a)", 0, api.OK}, {"#|x|# #999(#2(a))", 6, api.ErrSize}, {"#999(#999(#999(#999(#999(#999(a))))))", 0, api.ErrSize}, {"#+none #999(#999(#999(#999(a)))) b", 0, api.OK}, {"(a #1a #999(#999(#999(a))))", 3, api.ErrSize}, {"#0a#999(#999(#999(a)))", 0, api.ErrSize}, {"#c(#999(#999(#999(a))) 1)", 0, api.ErrForm}, {"#+#999(#999(#999(a))) b c", 0, api.ErrForm}, {"#+(or small #999(#999(#999(a)))) b c", 0, api.ErrForm}, {"'(a . #999(#999(#999(a))))", 0, api.ErrSize}, {"#1=#999(#999(#999(a)))", 0, api.ErrSize}, {"(#999(#999(#999(a))) . ,b)", 23, reader.ErrComma}, {"#999(#999(#999(#1=a)))", 10, reader.ErrShape}, {"#2(#999(#999(#999(a))) #1=b)", 0, api.ErrSize},
		{strings.Repeat("(", 90) + strings.Repeat("1 ", 1909) + strings.Repeat(")", 90), 0, api.ErrSize}, {"(" + strings.Repeat("1 ", 1998) + ")", 0, api.OK}, {"(" + strings.Repeat("1 ", 1999) + ")", 0, api.ErrSize}, {strings.Repeat("a", 4000), 0, api.OK}, {strings.Repeat("9", 4000), 0, api.OK},
	} {
		r, at, e := reader.Read(options(), x.s, 0)
		if at != x.at || e != x.want || e != api.OK && !empty(r) {
			t.Errorf("Read(%.50q) = %v, %d, %v; want %d, %v", x.s, r.Form.Kind, at, e, x.at, x.want)
		}
	}
	// an array of too many elements
	var rows []string
	for range 25 {
		rows = append(rows, "\""+strings.Repeat("x", 81)+"\"")
	}
	if _, at, e := reader.Read(options(), "'#2a("+strings.Join(rows, " ")+")", 0); at != 1 || e != api.ErrSize {
		t.Errorf("an array of 25 by 81: %d, %v", at, e)
	}
}

// P7.1: the parts of a result share no memory.
func TestMemory(t *testing.T) {
	r, _, e := reader.Read(options(), "#3((a))", 0)
	if e != api.OK {
		t.Fatal(e)
	}
	r.Form.Kids[0].Kids[0].Text = "B"
	if r.Form.Kids[1].Kids[0].Text != "A" || r.Form.Kids[2].Kids[0].Text != "A" {
		t.Error("repeated elements share their memory")
	}
	contents := list(list(sym("A")), list(sym("B")))
	array, _ := reader.Array(1, contents)
	array.Kids[0].Kids[0].Text = "C"
	if !forms.Equal(contents, list(list(sym("A")), list(sym("B")))) {
		t.Error("an array shares the memory of its contents")
	}
	f := list(comma(list(sym("A"))), vector(sym("B")))
	made, _ := reader.Backquote(f)
	var change func(f api.Form)
	change = func(f api.Form) {
		for i := range f.Kids {
			f.Kids[i].Text += "!"
			change(f.Kids[i])
		}
	}
	change(made)
	if !forms.Equal(f, list(comma(list(sym("A"))), vector(sym("B")))) {
		t.Error("Backquote shares the memory of its argument")
	}
}
