package symbols_test

import (
	"math"
	"slices"
	"strconv"
	"strings"
	"testing"

	"commonform/api"
	"commonform/symbols"
)

func samePackage(a, b symbols.Package) bool {
	return a.Name == b.Name && slices.Equal(a.Nicknames, b.Nicknames) && slices.Equal(a.Uses, b.Uses) && slices.Equal(a.UsedBy, b.UsedBy) && slices.Equal(a.Internal, b.Internal) && slices.Equal(a.External, b.External) && slices.Equal(a.Shadowing, b.Shadowing)
}

// P10.1: a new table.
func TestNew(t *testing.T) {
	s := symbols.New()
	if got := s.Packages(); !slices.Equal(got, []string{"COMMON-LISP", "KEYWORD", "COMMON-LISP-USER"}) {
		t.Errorf("Packages = %q", got)
	}
	for _, want := range []symbols.Package{
		{Name: "COMMON-LISP", Nicknames: []string{"CL"}, UsedBy: []string{"COMMON-LISP-USER"}},
		{Name: "KEYWORD"},
		{Name: "COMMON-LISP-USER", Nicknames: []string{"CL-USER"}, Uses: []string{"COMMON-LISP"}},
	} {
		for _, name := range append([]string{want.Name}, want.Nicknames...) {
			if p, e := s.Package(name); !samePackage(p, want) || e != api.OK {
				t.Errorf("Package(%q) = %v, %v", name, p, e)
			}
		}
	}
	if p, e := s.Package("cl"); !samePackage(p, symbols.Package{}) || e != api.ErrNone {
		t.Errorf("Package(cl) = %v, %v", p, e)
	}
}

// calls returns all calls of a table with these texts and this number, as far as they have an error.
func calls(s *symbols.Table, pack, other, name string, n int) map[string]api.Errno {
	_, _, intern := s.Intern(pack, name)
	_, _, find := s.Find(pack, name)
	_, unintern := s.Unintern(pack, n)
	_, fresh := s.Fresh(name)
	_, _, symbol := s.Symbol(n)
	_, known := s.Package(pack)
	return map[string]api.Errno{
		"Make": s.Make(name, nil, nil), "Delete": s.Delete(pack), "Intern": intern, "Find": find, "Export": s.Export(pack, n), "Unexport": s.Unexport(pack, n), "Import": s.Import(pack, n), "Shadow": s.Shadow(pack, name), "ShadowingImport": s.ShadowingImport(pack, n), "Unintern": unintern, "Use": s.Use(pack, other), "Unuse": s.Unuse(pack, other), "Fresh": fresh, "Symbol": symbol, "Package": known,
	}
}

// A nil table has nothing.
func TestNilTable(t *testing.T) {
	var s *symbols.Table
	long := strings.Repeat("x", 61)
	for what, e := range calls(s, long, long, long, -1) {
		fails(t, what, e, api.ErrArg)
	}
	if s.Packages() != nil || s.Text() != "" {
		t.Error("a nil table has packages")
	}
}

// The order of errors: long texts, then packages, then the number of a symbol.
func TestOrder(t *testing.T) {
	s, long := symbols.New(), strings.Repeat("x", api.MaxName+1)
	before := s.Text()
	for what, e := range calls(s, long, "none", long, -1) {
		if what != "Symbol" {
			fails(t, what, e, api.ErrSize)
		}
	}
	for what, e := range calls(s, "none", "KEYWORD", long, 0) {
		want := api.ErrNone
		if slices.Contains([]string{"Make", "Intern", "Find", "Shadow", "Fresh"}, what) {
			want = api.ErrSize
		}
		fails(t, what, e, want)
	}
	fails(t, "Use of what is too long", s.Use("none", long), api.ErrSize)
	fails(t, "Unuse of what is too long", s.Unuse("none", long), api.ErrSize)
	fails(t, "Use of nothing", s.Use("CL", "none"), api.ErrNone)
	fails(t, "Unuse of nothing", s.Unuse("CL", "none"), api.ErrNone)
	// (the calls themselves make two symbols)
	for _, n := range []int{-1, 3, math.MinInt, math.MaxInt} {
		for _, what := range []string{"Export", "Unexport", "Import", "ShadowingImport", "Unintern", "Symbol"} {
			fails(t, what, calls(symbols.New(), "CL", "KEYWORD", "x", n)[what], api.ErrNone)
		}
	}
	for i, c := range []struct {
		name             string
		nicknames, users []string
		want             api.Errno
	}{
		{"", []string{long}, nil, api.ErrSize}, {"", nil, []string{long}, api.ErrSize}, {"", []string{"CL"}, nil, api.ErrArg}, {"", nil, []string{"none"}, api.ErrArg},
		{"CL", nil, []string{"none"}, api.ErrTwice}, {"KEYWORD", nil, nil, api.ErrTwice}, {"P", []string{"CL-USER"}, nil, api.ErrTwice}, {"P", []string{"P"}, nil, api.ErrTwice}, {"P", []string{"N", "N"}, nil, api.ErrTwice},
		{"P", nil, []string{"KEYWORD", "none"}, api.ErrNone}, {"P", nil, []string{"P"}, api.ErrNone}, {"P", nil, []string{"CL", "CL", "KEYWORD"}, api.ErrArg}, {"P", nil, []string{"CL", "COMMON-LISP"}, api.ErrTwice}, {"P", nil, []string{"CL", "CL-USER", "CL"}, api.ErrTwice},
	} {
		fails(t, "Make "+strconv.Itoa(i), s.Make(c.name, c.nicknames, c.users), c.want)
	}
	if s.Text() != before {
		t.Error("calls with an error have changed the table")
	}
}

// With an error all other results are zero values.
func TestZeroResults(t *testing.T) {
	long := strings.Repeat("x", api.MaxName+1)
	for what, s := range map[string]*symbols.Table{"nil": nil, "new": symbols.New()} {
		a, b, e := s.Intern(long, long)
		c, d, f := s.Find("none", "")
		g, h := s.Fresh(long)
		name, home, i := s.Symbol(-1)
		taken, j := s.Unintern("none", 0)
		p, k := s.Package("none")
		if a != 0 || b != 0 || c != 0 || d != 0 || g != 0 || name != "" || home != "" || taken || !samePackage(p, symbols.Package{}) {
			t.Errorf("%s: %d, %d, %d, %d, %d, %q, %q, %v, %v", what, a, b, c, d, g, name, home, taken, p)
		}
		for _, code := range []api.Errno{e, f, h, i, j, k} {
			if code == api.OK {
				t.Errorf("%s: a call without an error", what)
			}
		}
	}
}

// P10.1, P10.3: interning, in KEYWORD too, and symbols by their numbers.
func TestIntern(t *testing.T) {
	s := made(t, "P")
	long := strings.Repeat("\xff", api.MaxName)
	for i, name := range []string{"X", "x", "", long, "é"} {
		if n := intern(t, s, "CL-USER", name); n != i {
			t.Errorf("the number of %q is %d", name, n)
		}
		found(t, s, "COMMON-LISP-USER", name, i, symbols.Internal)
		found(t, s, "P", name, -1, symbols.None)
		if n, status, e := s.Intern("CL-USER", name); n != i || status != symbols.Internal || e != api.OK {
			t.Errorf("Intern of %q again = %d, %d, %v", name, n, status, e)
		}
		if got, home, e := s.Symbol(i); got != name || home != "COMMON-LISP-USER" || e != api.OK {
			t.Errorf("Symbol(%d) = %q, %q, %v", i, got, home, e)
		}
	}
	k := intern(t, s, "KEYWORD", "X")
	found(t, s, "KEYWORD", "X", k, symbols.External)
	if n, status, e := s.Intern("KEYWORD", "X"); n != k || status != symbols.External || e != api.OK {
		t.Errorf("Intern of a keyword = %d, %d, %v", n, status, e)
	}
	if n, e := s.Fresh("X"); n != 6 || e != api.OK {
		t.Errorf("Fresh = %d, %v", n, e)
	}
	if name, home, e := s.Symbol(6); name != "X" || home != "" || e != api.OK {
		t.Errorf("Symbol of a fresh one = %q, %q, %v", name, home, e)
	}
}

// P10.1: limits.
func TestFull(t *testing.T) {
	s := symbols.New()
	for i := range api.MaxSymbols {
		if n, e := s.Fresh("x"); n != i || e != api.OK {
			t.Fatal(n, e)
		}
	}
	if n, e := s.Fresh("x"); n != 0 || e != api.ErrFull {
		t.Errorf("one symbol more: %d, %v", n, e)
	}
	if n, status, e := s.Intern("CL", "x"); n != 0 || status != 0 || e != api.ErrFull {
		t.Errorf("Intern of one symbol more: %d, %d, %v", n, status, e)
	}
	fails(t, "Shadow of one symbol more", s.Shadow("CL", "x"), api.ErrFull)
	fails(t, "Import", s.Import("CL", 7), api.OK)
	if n, status, e := s.Intern("CL", "x"); n != 7 || status != symbols.Internal || e != api.OK {
		t.Errorf("Intern of what is there: %d, %d, %v", n, status, e)
	}
	fails(t, "Shadow of what is there", s.Shadow("CL", "x"), api.OK)
	for i := range 47 {
		fails(t, "Make", s.Make("P"+strconv.Itoa(i), nil, nil), api.OK)
	}
	fails(t, "one package more", s.Make("P", nil, nil), api.ErrFull)
	fails(t, "one package more, which is there", s.Make("P0", nil, nil), api.ErrTwice)
	fails(t, "Delete", s.Delete("P3"), api.OK)
	fails(t, "a package in the place of another one", s.Make("P", nil, nil), api.OK)
	if l := s.Packages(); len(l) != 50 || l[49] != "P" || l[6] != "P4" {
		t.Errorf("Packages = %q", l)
	}
	// the text of such a table is read
	if again, e := symbols.Parse(s.Text()); e != api.OK || again.Text() != s.Text() {
		t.Errorf("Parse: %v", e)
	}
}

// The example of the chapter.
func TestExample(t *testing.T) {
	s := symbols.New()
	if n := intern(t, s, "CL-USER", "X"); n != 0 {
		t.Error(n)
	}
	fails(t, "Make", s.Make("P", nil, nil), api.OK)
	exported(t, s, "P", "X")
	fails(t, "Use", s.Use("CL-USER", "P"), symbols.ErrClash)
	fails(t, "Shadow", s.Shadow("CL-USER", "X"), api.OK)
	fails(t, "Use", s.Use("CL-USER", "P"), api.OK)
	found(t, s, "CL-USER", "X", 0, symbols.Internal)
	// P10.2: behind the shadowing one the inherited one comes to light
	if ok, e := s.Unintern("CL-USER", 0); !ok || e != api.OK {
		t.Error(ok, e)
	}
	found(t, s, "CL-USER", "X", 1, symbols.Inherited)
	if _, home, _ := s.Symbol(0); home != "" {
		t.Errorf("the home of what was taken away is %q", home)
	}
}

// P10.1: exports, and the conflicts that they would make.
func TestExport(t *testing.T) {
	s := made(t, "P", "Q", "R")
	x := intern(t, s, "P", "X")
	fails(t, "Use", s.Use("Q", "P"), api.OK)
	fails(t, "Export of what another package has", s.Export("Q", x), symbols.ErrAccess)
	y := intern(t, s, "Q", "X")
	fails(t, "Export to a package with such a name", s.Export("P", x), symbols.ErrClash)
	found(t, s, "P", "X", x, symbols.Internal)
	fails(t, "ShadowingImport", s.ShadowingImport("Q", y), api.OK)
	fails(t, "Export behind a shadowing symbol", s.Export("P", x), api.OK)
	fails(t, "Export again", s.Export("P", x), api.OK)
	found(t, s, "P", "X", x, symbols.External)
	// an inherited symbol becomes present
	fails(t, "Use", s.Use("R", "P"), api.OK)
	found(t, s, "R", "X", x, symbols.Inherited)
	fails(t, "Export of an inherited symbol", s.Export("R", x), api.OK)
	found(t, s, "R", "X", x, symbols.External)
	if p, _ := s.Package("R"); !slices.Equal(p.External, []int{x}) {
		t.Errorf("R is %v", p)
	}
	// Unexport leaves it present
	fails(t, "Unexport", s.Unexport("R", x), api.OK)
	fails(t, "Unexport again", s.Unexport("R", x), api.OK)
	found(t, s, "R", "X", x, symbols.Internal)
	fails(t, "Unexport of another one", s.Unexport("R", y), symbols.ErrAccess)
	k := intern(t, s, "KEYWORD", "X")
	fails(t, "Unexport of a keyword", s.Unexport("KEYWORD", k), api.ErrArg)
	fails(t, "Unexport of no keyword", s.Unexport("KEYWORD", x), symbols.ErrAccess)
}

// P10.1: importing, shadowing, and homes.
func TestImport(t *testing.T) {
	s := made(t, "P", "Q")
	x := exported(t, s, "P", "X")
	f, _ := s.Fresh("F")
	fails(t, "Import", s.Import("Q", x), api.OK)
	fails(t, "Import again", s.Import("Q", x), api.OK)
	found(t, s, "Q", "X", x, symbols.Internal)
	if _, home, _ := s.Symbol(x); home != "P" {
		t.Errorf("the home is %q", home)
	}
	fails(t, "Import without a home", s.Import("Q", f), api.OK)
	if _, home, _ := s.Symbol(f); home != "Q" {
		t.Errorf("the home is %q", home)
	}
	other, _ := s.Fresh("X")
	fails(t, "Import of another one", s.Import("Q", other), symbols.ErrClash)
	fails(t, "Export", s.Export("Q", x), api.OK)
	// an external symbol makes room without an error
	fails(t, "ShadowingImport", s.ShadowingImport("Q", other), api.OK)
	found(t, s, "Q", "X", other, symbols.Internal)
	if p, _ := s.Package("Q"); !samePackage(p, symbols.Package{Name: "Q", Internal: []int{f, other}, Shadowing: []int{other}}) {
		t.Errorf("Q is %v", p)
	}
	// an external symbol stays external when it becomes shadowing
	fails(t, "ShadowingImport of what is there", s.ShadowingImport("P", x), api.OK)
	if p, _ := s.Package("P"); !samePackage(p, symbols.Package{Name: "P", External: []int{x}, Shadowing: []int{x}}) {
		t.Errorf("P is %v", p)
	}
	fails(t, "Shadow of a new name", s.Shadow("Q", "N"), api.OK)
	n, status, _ := s.Find("Q", "N")
	if name, home, _ := s.Symbol(n); name != "N" || home != "Q" || status != symbols.Internal {
		t.Errorf("Shadow has made %q of %q, %d", name, home, status)
	}
}

// P10.1: a shadowing symbol is not taken away from two that it hides.
func TestUnintern(t *testing.T) {
	s := made(t, "P", "Q", "R")
	x, y := exported(t, s, "P", "X"), exported(t, s, "Q", "X")
	fails(t, "Shadow", s.Shadow("R", "X"), api.OK)
	r, _, _ := s.Find("R", "X")
	fails(t, "Use", s.Use("R", "P"), api.OK)
	fails(t, "Use", s.Use("R", "Q"), api.OK)
	before := s.Text()
	if ok, e := s.Unintern("R", r); ok || e != symbols.ErrClash || s.Text() != before {
		t.Errorf("Unintern = %v, %v", ok, e)
	}
	if ok, e := s.Unintern("R", x); ok || e != api.OK {
		t.Errorf("Unintern of what is not present = %v, %v", ok, e)
	}
	fails(t, "Unuse", s.Unuse("R", "P"), api.OK)
	fails(t, "Unuse again", s.Unuse("R", "P"), api.OK)
	if ok, e := s.Unintern("R", r); !ok || e != api.OK {
		t.Errorf("Unintern = %v, %v", ok, e)
	}
	found(t, s, "R", "X", y, symbols.Inherited)
	// an external symbol goes from all packages that inherit it
	if ok, e := s.Unintern("Q", y); !ok || e != api.OK {
		t.Errorf("Unintern = %v, %v", ok, e)
	}
	found(t, s, "R", "X", -1, symbols.None)
}

// P10.1: packages that use others.
func TestPackages(t *testing.T) {
	s := made(t, "P", "Q")
	exported(t, s, "P", "X")
	y := exported(t, s, "Q", "X")
	fails(t, "Make with a conflict", s.Make("R", nil, []string{"P", "Q"}), symbols.ErrClash)
	fails(t, "Unexport", s.Unexport("Q", y), api.OK)
	fails(t, "Make", s.Make("R", []string{"RR", ""}, []string{"Q", "CL", "P"}), api.OK)
	if p, e := s.Package(""); !samePackage(p, symbols.Package{Name: "R", Nicknames: []string{"RR", ""}, Uses: []string{"Q", "COMMON-LISP", "P"}}) || e != api.OK {
		t.Errorf("Package = %v, %v", p, e)
	}
	if p, _ := s.Package("COMMON-LISP"); !slices.Equal(p.UsedBy, []string{"COMMON-LISP-USER", "R"}) {
		t.Errorf("COMMON-LISP is %v", p)
	}
	fails(t, "Use of itself", s.Use("R", "RR"), api.ErrArg)
	fails(t, "Use of KEYWORD", s.Use("R", "KEYWORD"), api.ErrArg)
	fails(t, "Use again", s.Use("R", "Q"), api.OK)
	fails(t, "Use by KEYWORD", s.Use("KEYWORD", "P"), api.OK)
	fails(t, "Use in both directions", s.Use("P", "R"), api.OK)
	for _, name := range []string{"CL", "KEYWORD", "COMMON-LISP-USER"} {
		fails(t, "Delete "+name, s.Delete(name), api.ErrArg)
	}
	fails(t, "Delete of what is used", s.Delete("R"), symbols.ErrUsed)
	fails(t, "Unuse", s.Unuse("P", "R"), api.OK)
	n := intern(t, s, "R", "N")
	fails(t, "Delete", s.Delete("RR"), api.OK)
	if name, home, e := s.Symbol(n); name != "N" || home != "" || e != api.OK {
		t.Errorf("the symbol of a package that is no more: %q, %q, %v", name, home, e)
	}
	for _, name := range []string{"R", "RR", ""} {
		if _, e := s.Package(name); e != api.ErrNone {
			t.Errorf("Package(%q): %v", name, e)
		}
	}
	fails(t, "Make again", s.Make("RR", []string{"R"}, nil), api.OK)
	// arguments are kept as they were
	nicknames, uses := []string{"S1"}, []string{"CL"}
	fails(t, "Make", s.Make("S", nicknames, uses), api.OK)
	nicknames[0], uses[0] = "S2", "Q"
	p, _ := s.Package("S")
	if !samePackage(p, symbols.Package{Name: "S", Nicknames: []string{"S1"}, Uses: []string{"COMMON-LISP"}}) {
		t.Errorf("S is %v", p)
	}
	p.Nicknames[0] = "S2"
	if p, _ = s.Package("S"); p.Nicknames[0] != "S1" {
		t.Error("a result shares the memory of the table")
	}
}

// P10.4: what undoes what.
func TestThereAndBack(t *testing.T) {
	s := made(t, "P", "Q")
	exported(t, s, "P", "X")
	z := intern(t, s, "P", "Z")
	before := s.Text()
	fails(t, "Use", s.Use("Q", "P"), api.OK)
	found(t, s, "Q", "X", 0, symbols.Inherited)
	fails(t, "Unuse", s.Unuse("Q", "P"), api.OK)
	fails(t, "Export", s.Export("P", z), api.OK)
	fails(t, "Unexport", s.Unexport("P", z), api.OK)
	if s.Text() != before {
		t.Error("not all is as it was")
	}
	// P10.3: two packages find the same symbols in a third one
	fails(t, "Use", s.Use("Q", "P"), api.OK)
	fails(t, "Use", s.Use("CL-USER", "P"), api.OK)
	found(t, s, "Q", "X", 0, symbols.Inherited)
	found(t, s, "CL-USER", "X", 0, symbols.Inherited)
}
