package core_test

import (
	"fmt"
	"math/rand"
	"reflect"
	"strings"
	"testing"

	"commonform/api"
	"commonform/core"
)

// P19.1, P19.3: texts of right trees, and texts that look like ones of trees.
func TestTexts(t *testing.T) {
	for _, s := range []string{
		"(const 2::1)", "(progn)", "(let [0] (const 2::1) (var 0))", "(let [9999] (const 2::1) (set 9999 (var 9999)))", "(const 8::a~20b~c3~bf)",
		"(const 11::)", "(const 11::(11:: 2::1))", "(const 10::(1:A:B 1::C 1:COMMON-LISP:NIL))", "(special 1:A:B)", "(setspecial 1:A:-*+/<>=%& (const 2::1))", "(function 1:~00:~7e)",
		"(lambda 1 {1 0 -1 -} {2 1 2 -} {2 3 -1 -} {3 4 -1 -} {4 5 6 1:KEYWORD:A} {4 7 -1 1::A} {4 8 -1 1:COMMON-LISP:NIL} (var 0) (var 1) (var 4) (var 6) (var 7) (progn))",
		"(callglobal 1:A:B)", "(callglobal 1:A:B (const 2::1) (const 2::2))", "(call (const 2::1))", "(if (progn) (progn) (progn))", "(let [] (progn))", "(labels [] (progn))",
		"(labels [0 1] (lambda 0 (call (var 1))) (lambda 0 (call (var 0))) (var 0))", "(bind [] (progn))", "(bind [1:A:B 1:C:D] (progn) (progn) (progn))", "(progv (progn) (progn) (progn))",
		"(block 0 (return 0 (progn)))", "(block 0 (lambda 0 (return 0 (progn))))", "(tagbody [] (progn))", "(tagbody [1 0] (go 0) (go 1) (lambda 0 (go 0)))", "(catch (progn) (progn))", "(throw (progn) (progn))",
		"(protect (progn) (progn))", "(valuescall (progn))", "(valuesfirst (progn) (progn))", "(let [0] (let [1] (progn) (var 1)) (block 0 (tagbody [0] (go 0) (return 0 (var 0)))))",
		"(const 13::0(10::(2::1 14::0)))", "(special 1:KEYWORD:K)", "(bind [1:KEYWORD:K] (progn) (progn))",
	} {
		c, e := core.Parse(s)
		fails(t, s, e, api.OK)
		fails(t, "Check of "+s, core.Check(c), api.OK)
		equal(t, "Show of Parse", shown(t, c), s)
	}
	for _, s := range []string{
		"", "(", ")", "()", "( )", "progn", "(progn", "(progn))", "(progn )", " (progn)", "(progn) ", "(progn  (progn))", "(progn(progn))", "(PROGN)", "(prog)", "(const)", "(const 2::01)", "(const 02::1)", "(const 2:1)", "(const 2:::1)", "(const 2::1 2::1)",
		"(const 8::~)", "(const 8::~2)", "(const 8::~61)", "(const 8::~FF)", "(const 8::~zz)", "(const 8::a.b)", "(const 8:A:a)", "(const 11::())", "(const 11::(2::1  2::2))", "(const 11::(2::1)", "(const 2::1", "(const x::1)",
		"(var 0)", "(var)", "(var x)", "(set 0 (progn))", "(let [0] (var 0) (progn))", "(let [0 0] (progn) (progn) (progn))", "(let [0] (progn))", "(let [0] (progn) (progn) (progn))", "(let (progn))", "(let [00] (progn) (progn))", "(let [0 ] (progn) (progn))", "(let [-1] (progn) (progn))", "(let [10000] (progn) (progn))", "(let [0 (progn) (progn))",
		"(progn (let [0] (progn) (progn)) (var 0))", "(progn (let [0] (progn) (progn)) (let [0] (progn) (progn)))", "(let [0] (let [0] (progn) (progn)) (progn))", "(let [0] (progn) (lambda 0 {1 0 -1 -} (progn)))",
		"(labels [0] (progn) (progn))", "(labels [0] (lambda 0 (progn)))", "(block 0 (block 0 (progn)))", "(return 0 (progn))", "(progn (block 0 (progn)) (return 0 (progn)))", "(block 10000 (progn))", "(block -1 (progn))", "(block 0)", "(block (progn))",
		"(go 0)", "(tagbody [0] (go 0))", "(tagbody [0 0] (progn) (progn) (progn))", "(tagbody [0] (progn) (tagbody [0] (progn) (progn)))", "(progn (tagbody [0] (progn) (progn)) (go 0))", "(tagbody [0] (progn) (go 0 (progn)))",
		"(special 1::A)", "(special 1:COMMON-LISP:NIL)", "(special 1:COMMON-LISP:T)", "(special 2::1)", "(function 1::A)", "(callglobal 1:COMMON-LISP:T)", "(setspecial 1:A:B)", "(bind [1:A:B 1:A:B] (progn) (progn) (progn))", "(bind [1::B] (progn) (progn))", "(bind [1:A:B] (progn))", "(bind [2::1] (progn) (progn))", "(bind [1:A:B(2::1)] (progn) (progn))",
		"(if (progn) (progn))", "(call)", "(catch (progn))", "(throw (progn) (progn) (progn))", "(protect (progn))", "(progv (progn) (progn))", "(valuescall)", "(valuesfirst)", "(lambda (progn))", "(lambda 2 (progn))", "(lambda -1 (progn))", "(lambda 0)",
		"(lambda 0 {2 0 -1 -} {1 1 -1 -} (progn) (progn))", "(lambda 0 {3 0 -1 -} {3 1 -1 -} (progn))", "(lambda 0 {5 0 -1 -} (progn))", "(lambda 0 {0 0 -1 -} (progn))", "(lambda 0 {1 0 1 -} (progn))", "(lambda 0 {3 0 1 -} (progn))", "(lambda 0 {2 0 -2 -} (progn) (progn))", "(lambda 0 {2 0 0 -} (progn) (progn))", "(lambda 0 {2 0 10000 -} (progn) (progn))", "(lambda 0 {1 -1 -1 -} (progn))",
		"(lambda 0 {1 0 -1 1:A:B} (progn))", "(lambda 0 {4 0 -1 -} (progn) (progn))", "(lambda 0 {4 0 -1 2::1} (progn) (progn))", "(lambda 0 {4 0 -1 1:A:B} {4 1 -1 1:A:B} (progn) (progn) (progn))", "(lambda 0 {2 0 -1 -} (progn))", "(lambda 0 {1 0 -1 -} (progn) (progn))", "(lambda 0 {2 0 -1 -} (var 0) (progn))", "(lambda 0 {2 0 1 -} (var 1) (progn))", "(lambda 0 {1 0 -1 -} {1 0 -1 -} (progn))", "(lambda 0 {1 0 -1 - } (progn))", "(lambda 0 {1 0 -1} (progn))",
		"(let [0] (lambda 0 {1 1 -1 -} (progn)) (var 1))", "(progn {1 0 -1 -})", "(progn 0)", "(progn [0])", "(set-special 1:A:B (progn))",
	} {
		c, e := core.Parse(s)
		equal(t, s, []any{e, c}, []any{api.ErrForm, api.Core{}})
	}
	long := "(const 8::" + strings.Repeat("a", 20000-11) + ")"
	_, e := core.Parse(long)
	fails(t, "the longest text", e, api.OK)
	_, e = core.Parse(long + "!")
	fails(t, "a text that is too long", e, api.ErrSize)
	_, e = core.Parse(strings.Repeat("(progn ", 2500))
	fails(t, "a deep text", e, api.ErrForm)
	_, e = core.Parse(strings.Repeat("(progn ", 100) + strings.Repeat(")", 100))
	fails(t, "blanks in it", e, api.ErrForm)
	_, e = core.Parse(strings.Repeat("(progn ", 100) + "(progn)" + strings.Repeat(")", 100))
	fails(t, "a tree that is too deep", e, api.ErrForm)
}

// P19.1: which bytes stand for themselves in texts, and how many kids each op has.
func TestBytesAndKids(t *testing.T) {
	var all []byte
	for b := range 128 {
		all = append(all, byte(b))
	}
	c := api.Core{Op: api.CoreConst, Data: api.Form{Kind: api.FormString, Text: string(all)}}
	want := "(const 8::"
	for _, b := range all {
		if strings.IndexByte("abcdefghijklmnopqrstuvwxyzABCDEFGHIJKLMNOPQRSTUVWXYZ0123456789-*+/<>=%&", b) >= 0 {
			want += string(b)
		} else {
			want += fmt.Sprintf("~%02x", b)
		}
	}
	equal(t, "all bytes", shown(t, c), want+")")
	back, e := core.Parse(want + ")")
	equal(t, "Parse of them", []any{back, e}, []any{c, api.OK})
	symbol := "1:A:B"
	for _, c := range []struct {
		head        string
		least, most int // -1: any number
	}{
		{"const 2::1", 0, 0}, {"special " + symbol, 0, 0}, {"setspecial " + symbol, 1, 1}, {"function " + symbol, 0, 0}, {"lambda 0", 1, 1}, {"lambda 0 {2 0 -1 -}", 2, 2}, {"call", 1, -1}, {"callglobal " + symbol, 0, -1}, {"if", 3, 3}, {"progn", 0, -1},
		{"let []", 1, 1}, {"let [0 1]", 3, 3}, {"labels []", 1, 1}, {"bind []", 1, 1}, {"bind [" + symbol + "]", 2, 2}, {"progv", 3, 3}, {"block 0", 1, 1}, {"tagbody []", 1, 1}, {"tagbody [0 1]", 3, 3}, {"catch", 2, 2}, {"throw", 2, 2}, {"protect", 2, 2}, {"valuescall", 1, -1}, {"valuesfirst", 1, -1},
	} {
		for n := range 6 {
			_, e := core.Parse("(" + c.head + strings.Repeat(" (progn)", n) + ")")
			want := api.ErrForm
			if n >= c.least && (c.most < 0 || n <= c.most) {
				want = api.OK
			}
			fails(t, fmt.Sprint(c.head, " with ", n, " kids"), e, want)
		}
	}
	for _, head := range []string{"var 0", "set 0", "return 0", "go 0"} {
		for n := range 3 {
			around := map[string]string{"var 0": "(let [0] (progn) (", "set 0": "(let [0] (progn) (", "return 0": "(block 0 (", "go 0": "(tagbody [0] (progn) ("}[head]
			_, e := core.Parse(around + head + strings.Repeat(" (progn)", n) + "))")
			want := api.ErrForm
			if n == 0 && (head == "var 0" || head == "go 0") || n == 1 && (head == "set 0" || head == "return 0") {
				want = api.OK
			}
			fails(t, fmt.Sprint(head, " with ", n, " kids"), e, want)
		}
	}
}

// P19.1: trees that no text shows: fields that do not belong to an op, and what is too large.
func TestCheck(t *testing.T) {
	progn, data := api.Core{Op: api.CoreProgn}, api.Form{Kind: api.FormInt, Text: "1"}
	symbol := api.Form{Kind: api.FormSymbol, Home: "A", Text: "B"}
	for _, c := range []api.Core{
		{}, {Op: -1}, {Op: 25}, {Op: api.CoreProgn, N: 1}, {Op: api.CoreProgn, Vars: []int{0}}, {Op: api.CoreProgn, Syms: []api.Form{symbol}}, {Op: api.CoreProgn, Pars: []api.Param{{Kind: 1, Given: -1}}},
		{Op: api.CoreProgn, Data: data}, {Op: api.CoreProgn, Data: api.Form{Home: "A"}}, {Op: api.CoreProgn, Data: api.Form{Kids: []api.Form{data}}},
		{Op: api.CoreConst}, {Op: api.CoreConst, N: 1, Data: data}, {Op: api.CoreConst, Data: api.Form{Kind: api.FormString, Text: "\xff"}}, {Op: api.CoreConst, Data: data, Kids: []api.Core{progn}},
		{Op: api.CoreSpecial, Data: api.Form{Kind: api.FormSymbol, Home: "A", Text: "B", Kids: []api.Form{data}}}, {Op: api.CoreSpecial, Data: api.Form{Kind: api.FormSymbol, Home: "A", Text: "\xff"}},
		{Op: api.CoreLambda, Pars: []api.Param{{Kind: api.ParamKey, Given: -1, Key: api.Form{Kind: api.FormSymbol, Text: "\xff"}}}, Kids: []api.Core{progn, progn}},
		{Op: api.CoreLambda, Pars: []api.Param{{Kind: api.ParamRequired, Given: -1, Key: api.Form{Text: "x"}}}, Kids: []api.Core{progn}},
		{Op: api.CoreProgn, Syms: []api.Form{symbol}, Kids: []api.Core{progn}}, {Op: api.CoreProgn, Vars: []int{0}, Kids: []api.Core{progn}}, {Op: api.CoreProgn, Pars: []api.Param{{Kind: 1, Given: -1}}, Kids: []api.Core{progn}},
		{Op: api.CoreBlock, N: -1, Kids: []api.Core{progn}}, {Op: api.CoreTagbody, Vars: []int{-1}, Kids: []api.Core{progn, progn}},
	} {
		fails(t, short(c), core.Check(c), api.ErrForm)
		s, e := core.Show(c)
		equal(t, "Show of a wrong tree", []any{s, e}, []any{"", api.ErrForm})
		_, e = core.Renamed(c, 0)
		fails(t, "Renamed of a wrong tree", e, api.ErrForm)
		if core.Same(c, c) || core.Same(progn, c) || core.Same(c, progn) {
			t.Errorf("%s is the Same", short(c))
		}
	}
	chain := func(n int) api.Core {
		c := progn
		for range n - 1 {
			c = api.Core{Op: api.CoreProgn, Kids: []api.Core{c}}
		}
		return c
	}
	wide := func(n int) api.Core {
		c := progn
		for range n - 1 {
			c.Kids = append(c.Kids, progn)
		}
		return c
	}
	for _, x := range []struct {
		c    api.Core
		want api.Errno
		size int
	}{
		{chain(100), api.OK, 100}, {chain(101), api.ErrSize, 0}, {wide(2000), api.OK, 2000}, {wide(2001), api.ErrSize, 0}, {chain(100000), api.ErrSize, 0},
		{api.Core{Kids: []api.Core{chain(100)}}, api.ErrSize, 0}, {api.Core{Kids: []api.Core{wide(100)}}, api.ErrForm, 101}, {api.Core{Op: api.CoreConst, Data: data}, api.OK, 1},
	} {
		fails(t, "Check", core.Check(x.c), x.want)
		equal(t, "Size", core.Size(x.c), x.size)
		if x.want == api.ErrSize {
			_, e := core.Show(x.c)
			fails(t, "Show of a large tree", e, api.ErrForm)
			_, e = core.Renamed(x.c, 0)
			fails(t, "Renamed of a large tree", e, api.ErrForm)
			equal(t, "Free of a large tree", core.Free(x.c), []int{})
		}
	}
}

// P19.1: the variables that trees use and do not bind, also of trees that are not right.
func TestFree(t *testing.T) {
	v := func(n int) api.Core { return api.Core{Op: api.CoreVar, N: n} }
	let := func(n int, init, body api.Core) api.Core {
		return api.Core{Op: api.CoreLet, Vars: []int{n}, Kids: []api.Core{init, body}}
	}
	list := func(l ...api.Core) api.Core { return api.Core{Op: api.CoreProgn, Kids: l} }
	lambda := api.Core{Op: api.CoreLambda, Pars: []api.Param{{Kind: 1, Var: 1, Given: -1}, {Kind: 2, Var: 2, Given: 3}}, Kids: []api.Core{v(1), list(v(2), v(3), v(-1), v(4))}}
	for _, c := range []struct {
		c    api.Core
		want []int
	}{
		{v(3), []int{3}}, {list(v(3), v(1), v(3)), []int{1, 3}}, {api.Core{Op: api.CoreSet, N: 7, Kids: []api.Core{v(6)}}, []int{6, 7}},
		{let(1, v(2), v(1)), []int{2}}, {lambda, []int{-1, 4}}, {api.Core{Op: api.CoreLabels, Vars: []int{5}, Kids: []api.Core{lambda, list(v(5), v(6))}}, []int{-1, 4, 6}},
		{api.Core{Op: api.CoreTagbody, Vars: []int{5}, Kids: []api.Core{v(5)}}, []int{5}}, {api.Core{Op: api.CoreBlock, N: 5, Kids: []api.Core{v(5)}}, []int{5}}, {api.Core{Op: 99, N: 5}, nil},
		{list(let(1, v(2), v(1)), v(1)), []int{2}},
	} {
		equal(t, "Free of "+short(c.c), core.Free(c.c), c.want)
	}
	equal(t, "Size of a lambda", core.Size(lambda), 7)
}

// anyTrees are the trees of random forms.
func anyTrees(t *testing.T, seed int64, n int) []api.Core {
	t.Helper()
	r := rand.New(rand.NewSource(seed))
	var l []api.Core
	for len(l) < n {
		p := writer{r: r}
		if text := p.form(scope{}, 5); len(text) <= api.MaxSource {
			l = append(l, converted(t, text, "s0"))
		}
	}
	return l
}

// P19.2, P19.3: trees of random forms are right, and come back from their texts; texts that were changed are those of other trees, or of none.
func TestThereAndBack(t *testing.T) {
	r := rand.New(rand.NewSource(193))
	for _, c := range anyTrees(t, 192, 400) {
		fails(t, "Check", core.Check(c), api.OK)
		equal(t, "Free", core.Free(c), []int{})
		s := shown(t, c)
		if len(s) > 20000 {
			continue
		}
		back, e := core.Parse(s)
		if e != api.OK || !reflect.DeepEqual(back, c) {
			t.Errorf("Parse of %s: %v, %v", s, e, short(back))
		}
		for range 5 {
			at := r.Intn(len(s))
			other := s[:at] + []string{"", "0", " ", "(", ")", "]", "a", "~"}[r.Intn(8)] + s[at+r.Intn(2):]
			if c, e := core.Parse(other); e == api.OK {
				equal(t, "Show of Parse", shown(t, c), other)
			} else {
				equal(t, "what is no text", []any{e, c}, []any{api.ErrForm, api.Core{}})
			}
		}
	}
}

// P19.4: Renamed by two numbers is Renamed by their sum, and the Same; Same is an equivalence.
func TestRenamed(t *testing.T) {
	trees := anyTrees(t, 194, 60)
	r := rand.New(rand.NewSource(195))
	for _, c := range trees {
		m, n := r.Intn(3000), r.Intn(3000)
		a, e := core.Renamed(c, m)
		fails(t, "Renamed", e, api.OK)
		fails(t, "Check of Renamed", core.Check(a), api.OK)
		b, _ := core.Renamed(a, n)
		sum, _ := core.Renamed(c, m+n)
		equal(t, "Renamed twice", b, sum)
		back, e := core.Renamed(b, -m-n)
		if e != api.OK || !reflect.DeepEqual(back, c) {
			t.Errorf("Renamed back: %v, %s", e, short(back))
		}
		if !core.Same(c, a) || !core.Same(b, c) || !core.Same(c, c) {
			t.Errorf("%s is not the Same as itself renamed", short(c))
		}
		for _, other := range trees[:20] {
			want := shown(t, other) == shown(t, c) // all are numbered alike
			if core.Same(a, other) != want || core.Same(other, a) != want {
				t.Errorf("Same of %s and %s is not %v", shown(t, a), shown(t, other), want)
			}
		}
	}
	for _, c := range []struct {
		tree string
		by   int
		want string
		e    api.Errno
	}{
		{"(let [5] (progn) (var 5))", 9994, "(let [9999] (progn) (var 9999))", api.OK},
		{"(let [5] (progn) (var 5))", 9995, "", api.ErrRange}, {"(let [5] (progn) (var 5))", -6, "", api.ErrRange}, {"(let [5] (progn) (var 5))", 1 << 62, "", api.ErrRange}, {"(let [5] (progn) (var 5))", -1 << 63, "", api.ErrRange},
		{"(let [5] (progn) (var 5))", -5, "(let [0] (progn) (var 0))", api.OK}, {"(lambda 1 (progn))", 1 << 62, "(lambda 1 (progn))", api.OK}, {"(progn)", -1 << 63, "(progn)", api.OK},
		{"(let [0] (progn) (var 0))", 9999, "(let [9999] (progn) (var 9999))", api.OK}, {"(let [9999] (progn) (var 9999))", -9999, "(let [0] (progn) (var 0))", api.OK}, {"(let [9999] (progn) (var 9999))", -10000, "", api.ErrRange},
		{"(block 0 (return 0 (progn)))", 3, "(block 3 (return 3 (progn)))", api.OK}, {"(block 0 (progn))", -1, "", api.ErrRange}, {"(tagbody [2 1] (go 1) (go 2) (progn))", 1, "(tagbody [3 2] (go 2) (go 3) (progn))", api.OK}, {"(tagbody [0] (progn) (progn))", -1, "", api.ErrRange},
		{"(lambda 1 {2 5 3 -} {4 2 -1 1:A:B} (progn) (var 5) (set 3 (var 2)))", 1, "(lambda 1 {2 6 4 -} {4 3 -1 1:A:B} (progn) (var 6) (set 4 (var 3)))", api.OK}, {"(lambda 0 {2 5 3 -} (progn) (progn))", -4, "", api.ErrRange}, {"(lambda 0 {2 3 5 -} (progn) (progn))", 9995, "", api.ErrRange},
	} {
		tree, e := core.Parse(c.tree)
		fails(t, c.tree, e, api.OK)
		got, e := core.Renamed(tree, c.by)
		s, _ := core.Show(got)
		equal(t, c.tree, []any{s, e}, []any{c.want, c.e})
	}
}

// P19.4: what is the Same, and what is not.
func TestSame(t *testing.T) {
	for _, c := range []struct {
		a, b string
		want bool
	}{
		{"(let [0 1] (progn) (progn) (call (var 0) (var 1)))", "(let [1 0] (progn) (progn) (call (var 1) (var 0)))", true},
		{"(let [0 1] (progn) (progn) (call (var 0) (var 1)))", "(let [1 0] (progn) (progn) (call (var 0) (var 1)))", false},
		{"(let [0 1] (progn) (progn) (call (var 0) (var 1)))", "(let [0 1] (progn) (progn) (call (var 0) (var 0)))", false},
		{"(let [0 1] (progn) (progn) (call (var 0) (var 0)))", "(let [0 1] (progn) (progn) (call (var 0) (var 1)))", false},
		{"(let [3] (progn) (block 4 (tagbody [5] (go 5) (return 4 (var 3)))))", "(let [0] (progn) (block 0 (tagbody [0] (go 0) (return 0 (var 0)))))", true},
		{"(tagbody [0 1] (go 0) (progn) (progn))", "(tagbody [0 1] (go 1) (progn) (progn))", false}, {"(tagbody [0 1] (go 0) (progn) (progn))", "(tagbody [1 0] (go 1) (progn) (progn))", true},
		{"(block 0 (block 1 (return 0 (progn))))", "(block 0 (block 1 (return 1 (progn))))", false}, {"(block 0 (block 1 (return 0 (progn))))", "(block 1 (block 0 (return 1 (progn))))", true},
		{"(const 2::1)", "(const 2::2)", false}, {"(const 2::1)", "(const 8::1)", false}, {"(special 1:A:B)", "(special 1:A:C)", false}, {"(special 1:A:B)", "(function 1:A:B)", false}, {"(bind [1:A:B] (progn) (progn))", "(bind [1:A:C] (progn) (progn))", false}, {"(bind [1:A:B] (progn) (progn))", "(bind [1:A:B] (progn) (progn))", true},
		{"(lambda 0 (progn))", "(lambda 1 (progn))", false}, {"(lambda 0 {1 0 -1 -} (var 0))", "(lambda 0 {1 5 -1 -} (var 5))", true}, {"(lambda 0 {1 0 -1 -} (progn))", "(lambda 0 {3 0 -1 -} (progn))", false}, {"(lambda 0 {1 0 -1 -} {1 1 -1 -} (var 0))", "(lambda 0 {1 0 -1 -} (var 0))", false},
		{"(lambda 0 {2 0 1 -} (progn) (var 0))", "(lambda 0 {2 0 -1 -} (progn) (var 0))", false}, {"(lambda 0 {2 0 1 -} (progn) (var 0))", "(lambda 0 {2 1 0 -} (progn) (var 1))", true}, {"(lambda 0 {2 0 1 -} (progn) (var 0))", "(lambda 0 {2 0 1 -} (progn) (var 1))", false},
		{"(lambda 0 {4 0 -1 1:A:B} (progn) (progn))", "(lambda 0 {4 0 -1 1:A:C} (progn) (progn))", false}, {"(lambda 0 {4 0 -1 1:A:B} (progn) (progn))", "(lambda 0 {4 9 -1 1:A:B} (progn) (progn))", true},
		{"(progn)", "(progn (progn))", false}, {"(progn (progn) (const 2::1))", "(progn (progn) (const 2::2))", false}, {"(let [0] (progn) (set 0 (var 0)))", "(let [1] (progn) (set 1 (var 1)))", true}, {"(let [] (progn))", "(let [0] (progn) (progn))", false},
		{"(call (progn) (let [0] (progn) (var 0)))", "(call (progn) (let [1] (progn) (var 1)))", true}, {"(let [0] (progn) (progn (progn) (var 0)))", "(let [7] (progn) (progn (progn) (var 7)))", true},
	} {
		a, e := core.Parse(c.a)
		fails(t, c.a, e, api.OK)
		b, e := core.Parse(c.b)
		fails(t, c.b, e, api.OK)
		if core.Same(a, b) != c.want || core.Same(b, a) != c.want {
			t.Errorf("Same of %s and %s is not %v", c.a, c.b, c.want)
		}
	}
}
