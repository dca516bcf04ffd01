package symbols_test

import (
	"strings"
	"testing"

	"commonform/api"
	"commonform/symbols"
)

const newText = "package x434f4d4d4f4e2d4c495350 x434c - - - -\npackage x4b4559574f5244 - - - - -\npackage x434f4d4d4f4e2d4c4953502d55534552 x434c2d55534552 x434f4d4d4f4e2d4c495350 - - -\n"

// P10.1: the text of a table.
func TestText(t *testing.T) {
	s := symbols.New()
	if s.Text() != newText {
		t.Errorf("a new table is\n%s", s.Text())
	}
	fails(t, "Make", s.Make("P", []string{"", "\xffa"}, []string{"KEYWORD"}[:0]), api.OK)
	fails(t, "Make", s.Make("Q", nil, []string{"P", "CL"}), api.OK)
	s.Fresh("")
	intern(t, s, "P", "A")
	intern(t, s, "P", "B")
	exported(t, s, "P", "C")
	fails(t, "Shadow", s.Shadow("P", "B"), api.OK)
	fails(t, "Shadow", s.Shadow("P", "A"), api.OK)
	want := "symbol x -\nsymbol x41 x50\nsymbol x42 x50\nsymbol x43 x50\n" + newText + "package x50 x,xff61 - 1,2 3 1,2\npackage x51 - x50,x434f4d4d4f4e2d4c495350 - - -\n"
	if s.Text() != want {
		t.Errorf("the text is\n%s", s.Text())
	}
	again, e := symbols.Parse(want)
	if e != api.OK || again.Text() != want {
		t.Fatalf("Parse: %v", e)
	}
	found(t, again, "\xffa", "C", 3, symbols.External)
	found(t, again, "Q", "C", 3, symbols.Inherited)
}

// P10.1, P10.6: texts that no right table has.
func TestParse(t *testing.T) {
	if s, e := symbols.Parse(newText); e != api.OK || s.Text() != newText {
		t.Errorf("Parse of a new table: %v", e)
	}
	name := func(n int) string { return "x" + strings.Repeat("61", n) }
	lines := strings.SplitAfter(newText, "\n")
	cl, user := lines[0], lines[2]
	with := func(symbols string, packages ...string) string {
		return symbols + newText + strings.Join(packages, "")
	}
	one, two := "symbol x41 -\n", "symbol x41 -\nsymbol x41 -\n"
	for what, s := range map[string]string{
		"a name as long as it may be": with("symbol " + name(60) + " -\n"), "a home": with("symbol x41 x50\n", "package x50 - - 0 - -\n"), "a home and an external symbol": with("symbol x41 x50\n", "package x50 - - - 0 0\n"),
		"shadowing behind a conflict": with("symbol x41 -\nsymbol x41 -\nsymbol x41 -\n", "package x50 - - - 0 -\npackage x51 - - - 1 -\npackage x52 - x50,x51 2 - 2\n"), "the same symbol twice": with(one, "package x50 - - - 0 -\npackage x51 - x50 0 - -\n"), "an internal one of the same name": with(two, "package x50 - - 0 - -\npackage x51 - x50 1 - -\n"), "no use of COMMON-LISP": strings.Replace(newText, "x434f4d4d4f4e2d4c495350 - - -\n", "- - - -\n", 1), "each uses the other": with("", "package x50 - x51 - - -\npackage x51 - x50 - - -\n"),
	} {
		if got, e := symbols.Parse(s); e != api.OK || got.Text() != s {
			t.Errorf("%s: %v", what, e)
		}
	}
	for what, s := range map[string]string{
		"nothing": "", "no package": one, "two packages": lines[0] + lines[1], "another order": lines[1] + lines[0] + lines[2], "no nickname": strings.Replace(newText, "x434c -", "- -", 1), "another nickname": strings.Replace(newText, "x434c -", "x434c,x434d -", 1), "no line feed": strings.TrimSuffix(newText, "\n"), "an empty line": newText + "\n", "an empty line in front": "\n" + newText, "words": newText + "word\n", "symbols behind": newText + one, "spaces": strings.Replace(newText, "- -", "-  -", 1), "a word more": strings.Replace(newText, "- -\n", "- - -\n", 1), "a word less": strings.Replace(newText, "- -\n", "-\n", 1), "a return": strings.ReplaceAll(newText, "\n", "\r\n"), "a tab": strings.Replace(newText, " ", "\t", 1),
		"great letters": strings.Replace(newText, "4c", "4C", 1), "half a byte": with("symbol x4 -\n"), "no x": with("symbol 41 -\n"), "no digit": with("symbol x4g -\n"), "a sign": with("symbol x+4 -\n"), "a great X": with("symbol X41 -\n"), "an empty home": with("symbol x41 x\n"), "a symbol of three words": with("symbol x41 - -\n"), "a symbol of one word": with("symbol x41\n"), "a name too long": with("symbol " + name(61) + " -\n"), "a nickname too long": with("", "package x50 "+name(61)+" - - - -\n"), "a package without a name": with("", "package x - - - - -\n"), "a home too long": with("symbol x41 " + name(61) + "\n"), "a package twice": with("", "package x50 - - - - -\npackage x50 - - - - -\n"), "a nickname twice": with("", "package x50 x51 - - - -\npackage x51 - - - - -\n"), "a nickname twice in a package": with("", "package x50 x51,x51 - - - -\n"), "its own nickname": with("", "package x50 x50 - - - -\n"),
		"no home": with("symbol x41 x50\n"), "a home where it is not present": with("symbol x41 x50\n", "package x50 - - - - -\n"), "a nickname as a home": with("symbol x41 x51\n", "package x50 x51 - 0 - -\n"), "another one of this name at home": with("symbol x41 x50\nsymbol x41 -\n", "package x50 - - 1 - -\n"),
		"a use of itself": with("", "package x50 - x50 - - -\n"), "a use twice": with("", "package x50 - x434f4d4d4f4e2d4c495350,x434f4d4d4f4e2d4c495350 - - -\n"), "a use by nickname": with("", "package x50 - x434c - - -\n"), "a use of KEYWORD": with("", "package x50 - x4b4559574f5244 - - -\n"), "a use of nothing": with("", "package x50 - x51 - - -\n"), "an empty use": with("", "package x50 - x50, - - -\n"),
		"no such symbol": with(one, "package x50 - - 1 - -\n"), "a number below 0": with(one, "package x50 - - -1 - -\n"), "a leading zero": with(one, "package x50 - - 00 - -\n"), "a plus": with(one, "package x50 - - +0 - -\n"), "no number": with(one, "package x50 - - a - -\n"), "a huge number": with(one, "package x50 - - 99999999999999999999 - -\n"), "internal and external": with(one, "package x50 - - 0 0 -\n"), "internal twice": with(one, "package x50 - - 0,0 - -\n"), "not ascending": with("symbol x41 -\nsymbol x42 -\n", "package x50 - - 1,0 - -\n"), "one name twice": with(two, "package x50 - - 0,1 - -\n"), "one name twice, external": with(two, "package x50 - - 0 1 -\n"), "shadowing and not present": with(one, "package x50 - - - - 0\n"), "shadowing and no symbol": with("", "package x50 - - - - 0\n"), "shadowing another one": with(two, "package x50 - - 0 - 1\n"), "shadowing twice": with(one, "package x50 - - 0 - 0,0\n"), "no list": with(one, "package x50 - - 0 -, -\n"),
		"a conflict with a present symbol": with(two, "package x50 - - - 0 -\npackage x51 - x50 1 - -\n"), "a conflict of inherited symbols": with(two, "package x50 - - - 0 -\npackage x51 - - - 1 -\npackage x52 - x50,x51 - - -\n"), "a conflict ahead of its cause": with(two, "package x51 - x50 1 - -\npackage x50 - - - 0 -\n"),
		"too many symbols": with(strings.Repeat(one, api.MaxSymbols+1)), "too many packages": with("", manyPackages(48)),
		"a part of it": newText[1:], "two COMMON-LISPs": cl + newText, "two users": newText + user,
	} {
		if got, e := symbols.Parse(s); got != nil || e != api.ErrForm {
			t.Errorf("%s: %v", what, e)
		}
	}
	for what, s := range map[string]string{"all symbols": with(strings.Repeat(one, api.MaxSymbols)), "all packages": with("", manyPackages(47))} {
		if got, e := symbols.Parse(s); e != api.OK || got.Text() != s {
			t.Errorf("%s: %v", what, e)
		}
	}
	long := strings.Repeat("x", 200000)
	if got, e := symbols.Parse(long); got != nil || e != api.ErrForm {
		t.Errorf("Parse of the longest text: %v", e)
	}
	if got, e := symbols.Parse(long + "x"); got != nil || e != api.ErrSize {
		t.Errorf("Parse of a text that is too long: %v", e)
	}
}

// manyPackages returns the lines of so many packages.
func manyPackages(n int) string {
	s := ""
	for i := range n {
		s += "package x" + strings.Repeat("61", i+1) + " - - - - -\n"
	}
	return s
}

// P1: texts with a byte changed never panic, and what is read has the same text.
func TestParseGarbage(t *testing.T) {
	s := "symbol x41 x50\nsymbol x42 -\n" + newText + "package x50 - x434f4d4d4f4e2d4c495350 0 1 1\n"
	for i := range s {
		for _, c := range "x -,01a\n" {
			for _, changed := range []string{s[:i] + string(c) + s[i+1:], s[:i] + string(c) + s[i:], s[:i] + s[i+1:]} {
				if got, e := symbols.Parse(changed); e == api.OK && got.Text() != changed || e != api.OK && got != nil {
					t.Errorf("Parse(%q): %v", changed, e)
				}
			}
		}
	}
}
