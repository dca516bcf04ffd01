package format_test

import (
	"fmt"
	"math/rand"
	"strings"
	"testing"
	"unicode"

	"commonform/api"
	"commonform/format"
)

// P13.1: Grouped.
func TestGrouped(t *testing.T) {
	for _, c := range []struct {
		digits, comma string
		interval      int
		want          string
	}{
		{"1234567", ",", 3, "1,234,567"}, {"-1234567", ",", 3, "-1,234,567"}, {"+123", ",", 3, "+123"}, {"-123", ",", 1, "-1,2,3"}, {"", ",", 3, ""}, {"-", ",", 3, "-"}, {"123456", "", 2, "123456"}, {"123456", "::", 2, "12::34::56"}, {"12345", ",", 1000, "12345"}, {"abc def", "-", 4, "abc- def"}, {"--12345", ",", 3, "--12,345"},
		{"123", ",", 0, "!1"}, {"123", ",", 1001, "!1"}, {"", "", -1, "!1"},
	} {
		s, e := format.Grouped(c.digits, c.comma, c.interval)
		puts(t, fmt.Sprint("Grouped ", c), s, e, c.want)
	}
	r := rand.New(rand.NewSource(134))
	for range 1000 {
		digits := strings.Repeat("1234567890", 5)[:r.Intn(40)]
		interval := 1 + r.Intn(6)
		want := ""
		for i := range len(digits) {
			if i > 0 && (len(digits)-i)%interval == 0 {
				want += "_"
			}
			want += digits[i : i+1]
		}
		s, e := format.Grouped("+"+digits, "_", interval)
		puts(t, fmt.Sprint("Grouped ", digits, interval), s, e, "+"+want)
	}
}

// P13.1: Justified.
func TestJustified(t *testing.T) {
	for _, c := range []struct {
		texts              string
		width, step, least int
		front, back        bool
		want               string
	}{
		{"a b", 5, 4, 1, true, false, "..a.b"}, {"abcd", 2, 3, 2, false, false, "....abcd"}, {"a", 3, 1, 0, false, false, "..a"}, {"a", 3, 1, 0, false, true, "a.."}, {"a", 4, 1, 0, true, true, "..a."}, {"a b c", 10, 1, 0, false, false, "a....b...c"}, {"a b c", 10, 1, 0, true, true, "..a..b..c."}, {"abc de", 4, 3, 0, false, false, "abc..de"}, {"abc de", 5, 3, 0, false, false, "abcde"}, {"a b", 0, 1, 0, false, false, "ab"}, {"a b", 0, 1000, 1, false, false, "a" + repeat(".", 998) + "b"}, {"a", 1000, 1, 1000, true, false, repeat(".", 1000) + "a"}, {"a", 0, 7, 3, true, true, "...a..."},
	} {
		texts := strings.Fields(c.texts)
		s, e := format.Justified(texts, c.width, c.step, c.least, ".", c.front, c.back)
		puts(t, fmt.Sprint("Justified ", c), s, e, c.want)
	}
	long := []string{repeat("a", 4001)}
	for _, c := range []struct {
		what               string
		texts              []string
		width, step, least int
		pad                string
		want               api.Errno
	}{
		{"no texts", nil, -1, 0, -1, "", api.ErrSize}, {"101 texts", make([]string, 101), -1, 0, -1, "", api.ErrSize}, {"a long text", append(make([]string, 50), long...), -1, 0, -1, "", api.ErrSize},
		{"no pad", []string{""}, -1, 1, -1, "", api.ErrArg}, {"two pads", []string{""}, -1, 1, -1, "..", api.ErrArg}, {"a pad of two bytes", []string{""}, -1, 1, -1, "é", api.ErrArg}, {"no step", []string{""}, -1, 0, -1, ".", api.ErrArg}, {"a great step", []string{""}, -1, 1001, -1, ".", api.ErrArg},
		{"a width below 0", []string{""}, -1, 1, 0, ".", api.ErrRange}, {"a great width", []string{""}, 1001, 1, 0, ".", api.ErrRange}, {"least below 0", []string{""}, 0, 1, -1, ".", api.ErrRange}, {"a great least", []string{""}, 0, 1, 1001, ".", api.ErrRange},
		{"100 texts", make([]string, 100), 1000, 1000, 1000, ".", api.OK}, {"a text of 4000 bytes", []string{long[0][1:]}, 0, 1, 0, ".", api.OK},
	} {
		s, e := format.Justified(c.texts, c.width, c.step, c.least, c.pad, true, true)
		if e != c.want || e != api.OK && s != "" {
			t.Errorf("Justified of %s: %v; want %v", c.what, e, c.want)
		}
	}
}

// P13.4: gaps, texts and widths.
func TestGaps(t *testing.T) {
	r := rand.New(rand.NewSource(135))
	for range 5000 {
		var texts []string
		for range 1 + r.Intn(5) {
			texts = append(texts, strings.Repeat("x", 1+r.Intn(4)))
		}
		width, step, least, front, back := r.Intn(30), 1+r.Intn(5), r.Intn(3), r.Intn(2) == 0, r.Intn(2) == 0
		s, e := format.Justified(texts, width, step, least, ".", front, back)
		what := fmt.Sprint(texts, width, step, least, front, back, " is ", s)
		used := len(strings.Join(texts, ""))
		first := front || len(texts) == 1 && !back
		gaps := len(texts) - 1
		if first {
			gaps++
		}
		if back {
			gaps++
		}
		want := width
		for want < used+gaps*least {
			want += step
		}
		if e != api.OK || len(s) != want {
			t.Fatalf("%s: %v", what, e)
		}
		// gaps of nothing are not to be seen, so the texts are taken off one by one
		var widths []int
		rest := s
		for i, x := range texts {
			n := len(rest) - len(strings.TrimLeft(rest, "."))
			if i > 0 || first {
				widths = append(widths, n)
			} else if n > 0 {
				t.Fatal(what)
			}
			if !strings.HasPrefix(rest[n:], x) {
				t.Fatal(what)
			}
			rest = rest[n+len(x):]
		}
		if back {
			widths = append(widths, len(rest))
		} else if rest != "" {
			t.Fatal(what)
		}
		for i, n := range widths {
			if n < least || n > widths[0] || n < widths[0]-1 || i > 0 && n > widths[i-1] {
				t.Fatalf("%s: gaps %v", what, widths)
			}
		}
	}
}

// cased changes a text letter by letter.
func cased(s string, colon, at bool) string {
	letter := func(c byte) bool { return c < 128 && unicode.IsLetter(rune(c)) }
	word := func(c byte) bool { return letter(c) || c >= '0' && c <= '9' }
	out := ""
	for i := range len(s) {
		c := s[i : i+1]
		if !letter(s[i]) {
			out += c
			continue
		}
		start := i
		for start > 0 && word(s[start-1]) {
			start--
		}
		firstOfWord := !strings.ContainsFunc(s[start:i], func(c rune) bool { return letter(byte(c)) })
		firstOfAll := true
		for k := range i {
			firstOfAll = firstOfAll && !letter(s[k])
		}
		if colon && at || colon && firstOfWord || at && !colon && firstOfAll {
			out += strings.ToUpper(c)
		} else {
			out += strings.ToLower(c)
		}
	}
	return out
}

// P13.1, P13.4: Cased against a look at each letter; it keeps all else, and Cased of Cased is Cased.
func TestCased(t *testing.T) {
	for _, c := range []struct {
		s         string
		colon, at bool
		want      string
	}{{"Hello wORLD 1a", false, false, "hello world 1a"}, {"hello wORLD", true, false, "Hello World"}, {" 12hello WORLD", false, true, " 12Hello world"}, {"aBc-1dE f2G", true, false, "Abc-1De F2g"}, {"aBz{}@[`1", true, true, "ABZ{}@[`1"}, {"éA\xffB", true, false, "éA\xffB"}, {"", true, true, ""}} {
		s, e := format.Cased(c.s, c.colon, c.at)
		puts(t, fmt.Sprint("Cased ", c), s, e, c.want)
	}
	r := rand.New(rand.NewSource(136))
	for range 3000 {
		b := make([]byte, r.Intn(12))
		for i := range b {
			b[i] = "abzAMZ019 -@[`{/:"[r.Intn(17)]
			if r.Intn(9) == 0 {
				b[i] = byte(r.Intn(256))
			}
		}
		colon, at := r.Intn(2) == 0, r.Intn(2) == 0
		s, e := format.Cased(string(b), colon, at)
		puts(t, fmt.Sprintf("Cased %q %v %v", b, colon, at), s, e, cased(string(b), colon, at))
		again, _ := format.Cased(s, colon, at)
		if again != s || len(s) != len(b) {
			t.Errorf("Cased of Cased of %q is %q, not %q", b, again, s)
		}
	}
	_, e := format.Cased(repeat("a", 20000), false, false)
	fails(t, "Cased of 20000 bytes", e, api.OK)
	s, e := format.Cased(repeat("a", 20001), false, false)
	puts(t, "Cased of 20001 bytes", s, e, "!4")
}

// P13.3: a text is its own output; outputs follow one another.
func TestTexts(t *testing.T) {
	r := rand.New(rand.NewSource(137))
	pieces := []struct {
		control string
		takes   int
	}{{"plain ", 0}, {"~A", 1}, {"~5D|", 1}, {"~%", 0}, {"~3T", 0}, {"~&", 0}, {"~(AB~A~)", 1}, {"~[a~;b~;c~:;d~]", 1}, {"~0[x~A~]", 1}, {"~2@{~A~}", 2}, {"~<a~;~A~>", 1}, {"~1,4@T", 0}, {"~~", 0}, {"~2*", 2}, {"~~é", 0}}
	for range 3000 {
		s := ""
		for range r.Intn(8) {
			s += pieces[0].control + string(rune(' '+r.Intn(94))) + "é"
		}
		s = strings.ReplaceAll(s, "~", "-")
		got, e := format.Format(s, nil)
		puts(t, "a text", got, e, s)
		first, second, takes := "", "", 0
		for i := range 8 {
			p := pieces[r.Intn(len(pieces))]
			if i < 4 {
				first, takes = first+p.control, takes+p.takes
			} else {
				second += p.control
			}
		}
		values := args("1 0 3 2 1 0 3 2 1 0 3 2 1 0 3 2")
		a, e := format.Format(first, values)
		both, f := format.Format(first+second, values)
		// the second one begins in the column that the first one ends in
		column := len(a) - strings.LastIndex(a, "\n") - 1
		b, g := format.Format(strings.Repeat("_", column)+second, values[takes:])
		if e != api.OK || f != api.OK || g != api.OK || both != a+b[column:] {
			t.Errorf("%q and %q: %q, %q, together %q; %v, %v, %v", first, second, a, b, both, e, f, g)
		}
	}
}

// P13.5: a list is put out as its elements.
func TestLists(t *testing.T) {
	for _, list := range []string{"", "1", "1 2 3", "A (B C) \"x\" #\\y 1.5 NIL"} {
		want := ""
		for _, x := range args(list) {
			s, _ := format.Format("~A", []api.Form{x})
			want += s
		}
		formats(t, "~{~A~}", "("+list+")", want)
		formats(t, "~@{~A~}", list, want)
	}
}

// R4: arguments are not changed.
func TestArgumentsStay(t *testing.T) {
	l := args("(1 2 3) \"~A\" 4")
	before := fmt.Sprint(l)
	format.Format("~{~A~}~@?", l)
	if got := fmt.Sprint(l); got != before {
		t.Errorf("the arguments are %s; want %s", got, before)
	}
}
