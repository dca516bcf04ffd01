package format_test

import (
	"fmt"
	"math/rand"
	"regexp"
	"strings"
	"testing"

	"commonform/api"
	"commonform/format"
)

// P13.1: control strings that are right or wrong.
func TestCheck(t *testing.T) {
	deep := func(n int) string { return repeat("~(", n) + repeat("~)", n) }
	for _, s := range []string{"", "plain", "~A", "~a", "~5A", "~+5,-5,'x,' A", "~',,',D", "~vA", "~V,#A", "~#A", "~,,,A", "~:A", "~@A", "~:@A", "~@:A", "~000000005A", "~-123456789A", "~'~A", "~~", "~\n", "~:@\n x", "~1,2,3,4,5R", "~1,2,3,4,5F", "~1,2,3,4$", "~1,2,3,4<~>", "~1,2,3^", "~1,2T", "~1,2@T", "~5%~5&~5|~5~~5*~5@*~5:*",
		"~(~)", "~[~]", "~[a~;b~;c~]", "~[a~:;b~]", "~[a~;b~:;c~]", "~[a~@;b~]", "~:[a~;b~]", "~@[a~]", "~{~}", "~{~:}", "~@:{a~@}", "~5{~}", "~<~>", "~:@<a~;b~;c~>", "~<a~@;b~>", "~(~[~{~<~>~}~]~)", "~[~(a~)~;b~]", "~:{~:^~}", "~:@{~(~[~:^~]~)~}", "~:{~{~}~:^~}", "~:{~:{~:^~}~:^~}", "~^", "~{~^~}", deep(20), "~~(", "~'(A", "é~A", "~?~@?~c~p", "~'ab,A"} {
		fails(t, fmt.Sprintf("Check(%q)", s), format.Check(s), api.OK)
	}
	for _, s := range []string{"~", "a~", "~5", "~:", "~'", "~'a", "~5,", "~Q", "~e", "~é", "~\x00", "~ ", "~=", "~/", "~I", "~W", "~_", "~1", "~::A", "~@@A", "~:@:A", "~:5A", "~@,A", "~5 A", "~5'xA", "~55'xA", "~vvA", "~#5A", "~+A", "~-A", "~+,A", "~1234567890A", "~-1234567890A", "~+-5A", "~5.0A", "~'éA",
		"~,,,,A", "~1,2,3,4,5S", "~1,2,3,4,5D", "~1,2,3,4,5B", "~,,,,O", "~,,,,X", "~,,,,,R", "~,,,,,F", "~,,,,$", "~,,,,<~>", "~,,,^", "~,,T", "~,%", "~,&", "~,|", "~,~", "~,*", "~,[a~]", "~,{~}", "~5C", "~,C", "~5P", "~5?", "~5\n", "~5(~)", "~(~5)", "~[~5]", "~{~5}", "~<~5>", "~[a~5;b~]", "~#P", "~v(~)",
		"~(", "~)", "~[", "~]", "~{", "~}", "~<", "~>", "~;", "~:;", "~:)", "~(~]", "~[~)", "~{~>", "~<~}", "~(~[~)~]", "~(~;~)", "~{~;~}", "~[~(~;~)~]", "~(a", "~[a~;b", "~(~)~)", deep(21), "~:@[a~]", "~:@[a~;b~]", "~:[a~]", "~:[~]", "~:[a~;b~;c~]", "~@[a~;b~]", "~:[a~:;b~]", "~[a~:;b~;c~]", "~[a~:;b~:;c~]", "~<a~:;b~>", "~@[a~:;b~]",
		"~:T", "~:@T", "~:@*", "~@:*", "~:^", "~{~:^~}", "~@{~:^~}", "~:{~{~:^~}~}", "~:{~<~:^~>~}", "~<~:^~>", "~(~:^~)", "~[~:^~]", "~:{~}~:^", "~:{~{~}~<~:^~>~}"} {
		fails(t, fmt.Sprintf("Check(%q)", s), format.Check(s), api.ErrForm)
		got, e := format.Format(s, []api.Form{{}})
		puts(t, fmt.Sprintf("Format(%q)", s), got, e, "!2")
	}
	fails(t, "Check of 4000 bytes", format.Check(repeat("a", 4000)), api.OK)
	fails(t, "Check of 4001 bytes", format.Check(repeat("~", 4001)), api.ErrSize)
}

// P13.1: the errors of Format, each ahead of those behind it.
func TestFormatErrors(t *testing.T) {
	wrong := make([]api.Form, 1001)
	for _, c := range []struct {
		what, control string
		args          []api.Form
		want          api.Errno
	}{
		{"a long control string", repeat("~", 4001), wrong, api.ErrSize},
		{"a wrong control string", "~", wrong, api.ErrForm},
		{"1001 arguments", "~A", wrong, api.ErrSize},
		{"a wrong argument", "~A~1001A", append(args("1 2"), api.Form{}), api.ErrForm},
		{"an argument that is too large", "", []api.Form{{Kind: api.FormVector, Kids: make([]api.Form, 2000)}}, api.ErrForm},
		{"a reference", "", []api.Form{{Kind: api.FormRef, Text: "0"}}, api.ErrForm},
		{"arguments that are left", "~A", args("1 2 3"), api.OK},
		{"1000 arguments", "~999*~A", args(repeat("1 ", 1000)), api.OK},
	} {
		s, e := format.Format(c.control, c.args)
		if e != c.want || e != api.OK && s != "" {
			t.Errorf("%s: %q, %v; want %v", c.what, s, e, c.want)
		}
	}
	check(t, []row{ // the first error that is met
		{"~A~1001A", "", "!5"}, {"~1001A~A", "", "!3"}, {"~'xA", "", "!13"}, {"~'x,VA", "", "!13"}, {"~V,'xA", "", "!5"}, {"~1001,'xA", "", "!3"}, {"~5,'xA", "1", "!13"}, {"~C~A", "1", "!13"},
	})
}

// P13.1: parameters.
func TestParameters(t *testing.T) {
	check(t, []row{
		{"~VD", "4 7", "   7"}, {"~vD", "NIL 7", "7"}, {"~V,VD", "4 #\\* 7", "***7"}, {"~4,VD", "NIL 7", "   7"}, {"~#D", "7 8 9", "  7"}, {"~V,#A|", "3 \"ab\"", "ab |"}, {"~+4D", "7", "   7"}, {"~0004D", "7", "   7"}, {"~4,',D", "7", ",,,7"}, {"~4,':D", "7", ":::7"}, {"~4,'vD", "7", "vvv7"}, {"~4,'~D", "7", "~~~7"}, {"~4,'\nD", "7", "\n\n\n7"},
		{"~VD", "", "!5"}, {"~VD", "4", "!5"}, {"~VD", "#\\a 7", "!13"}, {"~,VD", "5 7", "!13"}, {"~,VD", "#\\é 7", "!13"}, {"~VD", "X 7", "!13"}, {"~VD", "T 7", "!13"}, {"~VD", "1.0 7", "!13"}, {"~VD", "\"4\" 7", "!13"}, {"~VD", "() 7", "7"}, {"~VD", "1000 7", repeat(" ", 999) + "7"}, {"~VD", "1001 7", "!3"}, {"~VD", "-1 7", "!3"}, {"~VD", "1000000001 7", "!3"}, {"~VD", "-10000000000000000000000 7", "!3"}, {"~,VD", "1000000001 7", "!3"}, {"~,VD", "-1000000001 7", "!3"}, {"~,VD", "1000000000 7", "!13"},
		{"~V^a", "1000000000", "a"}, {"~V^a", "-1000000000", "a"}, {"~V^a", "1000000001", "!3"}, {"~V^a", "-1000000001", "!3"},
	})
	list := "(" + repeat("1 ", 1001) + ")"
	formats(t, "~{~#D~1000@*~A~}", list, "!3")
	formats(t, "~{~*~#D~999*~}", list, repeat(" ", 999)+"1")
}

// command is one directive by a regular expression.
var command = regexp.MustCompile(`(?s)^~((?:[+-]?[0-9]{1,9}|'.|[vV#])?(?:,(?:[+-]?[0-9]{1,9}|'.|[vV#])?)*)([:@]*)(.)`)

// right says whether a control string of ASCII characters is right.
func right(s string) bool {
	type open struct {
		char              byte
		colon, at, closed bool
		parts             int
	}
	var stack []open
	for {
		i := strings.IndexByte(s, '~')
		if i < 0 {
			return len(stack) == 0
		}
		m := command.FindStringSubmatch(s[i:])
		if m == nil || strings.Count(m[2], ":") > 1 || strings.Count(m[2], "@") > 1 {
			return false
		}
		s = s[i+len(m[0]):]
		char, colon, at := strings.ToUpper(m[3])[0], strings.Contains(m[2], ":"), strings.Contains(m[2], "@")
		params := 0
		if m[1] != "" {
			withoutCommas := strings.ReplaceAll(m[1], "',", "''")
			params = strings.Count(withoutCommas, ",") + 1
		}
		most, known := map[byte]int{'A': 4, 'S': 4, 'D': 4, 'B': 4, 'O': 4, 'X': 4, '$': 4, '<': 4, 'R': 5, 'F': 5, '^': 3, 'T': 2, '%': 1, '|': 1, '~': 1, '&': 1, '*': 1, '[': 1, '{': 1, 'C': 0, 'P': 0, '\n': 0, '?': 0, '(': 0, ')': 0, ']': 0, '}': 0, '>': 0, ';': 0}[char]
		if !known || params > most || char == 'T' && colon || char == '*' && colon && at {
			return false
		}
		last := len(stack) - 1
		switch char {
		case '(', '[', '{', '<':
			stack = append(stack, open{char: char, colon: colon, at: at, parts: 1})
			if len(stack) > 20 || char == '[' && colon && at {
				return false
			}
		case ')', ']', '}', '>':
			if last < 0 || map[byte]byte{'(': ')', '[': ']', '{': '}', '<': '>'}[stack[last].char] != char {
				return false
			}
			if x := stack[last]; x.char == '[' && (x.colon && x.parts != 2 || x.at && x.parts != 1) {
				return false
			}
			stack = stack[:last]
		case ';':
			if last < 0 || stack[last].char != '[' && stack[last].char != '<' || stack[last].closed {
				return false
			}
			if colon && (stack[last].char == '<' || stack[last].colon || stack[last].at) {
				return false
			}
			stack[last].parts++
			stack[last].closed = colon
		case '^':
			k := last
			for k >= 0 && stack[k].char != '{' && stack[k].char != '<' {
				k--
			}
			if colon && (k < 0 || stack[k].char == '<' || !stack[k].colon) {
				return false
			}
		}
	}
}

// P13.1: Check of any control strings, against regular expressions; no call panics, and each error is one of the chapter's.
func TestAnyControl(t *testing.T) {
	r := rand.New(rand.NewSource(131))
	pieces := strings.Split("~A ~D ~5,2F ~^ ~:^ ~; ~:; ~( ~) ~:( ~[ ~] ~:[ ~@[ ~#[ ~{ ~} ~:{ ~@{ ~:@{ ~:} ~< ~> ~10:@< a bc ~ ~5 : @ , 'x v V # A D x { } ( ~% ~& ~2T ~@T ~:T ~* ~:* ~2@* ~? ~@? ~P ~:@P ~R ~@R ~~ ~| ~C ~$ ~1,2^ ~, ~123456789 0", " ")
	pieces = append(pieces, "~\n", " ", "\n")
	values := args("1 2 (1 2 3) NIL \"~A\" ((1) (2)) #\\a \"~{~A~}\" X 1/2 0 \"~?\" 5")
	counts := map[api.Errno]int{}
	for range 60000 {
		control := ""
		for range r.Intn(9) {
			control += pieces[r.Intn(len(pieces))]
		}
		want := api.OK
		if !right(control) {
			want = api.ErrForm
		}
		fails(t, fmt.Sprintf("Check(%q)", control), format.Check(control), want)
		var l []api.Form
		for range r.Intn(6) {
			l = append(l, values[r.Intn(len(values))])
		}
		s, e := format.Format(control, l)
		counts[e]++
		if e != api.OK && s != "" || want != api.OK && e != want {
			t.Errorf("Format(%q, %v) = %q, %v", control, l, s, e)
		}
		switch e {
		case api.OK, api.ErrForm, api.ErrRange, api.ErrNone, api.ErrType, api.ErrFull:
		default:
			t.Errorf("Format(%q, %v) = %v", control, l, e)
		}
	}
	for _, e := range []api.Errno{api.OK, api.ErrForm, api.ErrRange, api.ErrNone, api.ErrType, api.ErrFull} {
		if counts[e] < 5 {
			t.Errorf("the code %v came only %d times", e, counts[e])
		}
	}
}
