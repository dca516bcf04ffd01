package format

import (
	"strconv"
	"strings"

	"commonform/api"
)

// Kinds of parameters.
const (
	absent  = iota // empty
	fixed          // an integer
	letter         // a character
	taken          // v: an argument
	counted        // #: the number of arguments that are left
)

// parameter is a parameter of a directive; n is its integer, or its character.
type parameter struct{ kind, n int }

// directive is a directive, or, without a character, a text.
type directive struct {
	char      byte // with a great letter
	text      string
	params    []parameter
	colon, at bool
	parts     [][]directive // of a bracket
	final     bool          // the end of ~{, or the last ~; of ~[, has a colon
}

// place says in what a directive stands.
type place struct {
	depth int
	lists bool // the innermost ~{ or ~< is a ~{ with a colon
}

// reader reads a control string.
type reader struct {
	s  string
	at int
}

// read returns the directives of a control string.
func read(control string) (l []directive, e api.Errno) {
	if len(control) > api.MaxSource {
		return nil, api.ErrSize
	}
	defer func() {
		if stop := recover(); stop != nil {
			l, e = nil, api.Errno(stop.(failure))
		}
	}()
	r := &reader{s: control}
	l, end := r.part(place{})
	if end.char != 0 {
		fail(api.ErrForm)
	}
	return l, api.OK
}

// part reads up to a ~; or a closing bracket, which it returns, or up to the end, where it returns none.
func (r *reader) part(p place) (l []directive, end directive) {
	for r.at < len(r.s) {
		if r.s[r.at] != '~' {
			l = append(l, r.words())
			continue
		}
		d := r.directive()
		switch d.char {
		case ';', ')', ']', '}', '>':
			return l, d
		case '(', '[', '{', '<':
			d = r.bracket(d, p)
		case '\n':
			d = r.newline(d)
		}
		if !allowed(d, p) {
			fail(api.ErrForm)
		}
		l = append(l, d)
	}
	return l, directive{}
}

// words reads a text without directives.
func (r *reader) words() directive {
	text := r.s[r.at:]
	if i := strings.IndexByte(text, '~'); i >= 0 {
		text = text[:i]
	}
	r.at += len(text)
	return directive{text: text}
}

// newline reads what a ~ and a line feed leave out.
func (r *reader) newline(d directive) directive {
	if d.at {
		d.text = "\n"
	}
	for !d.colon && r.at < len(r.s) && (r.s[r.at] == ' ' || r.s[r.at] == '\t') {
		r.at++
	}
	return d
}

// allowed reports whether a directive may have its signs where it stands.
func allowed(d directive, p place) bool {
	switch d.char {
	case 'T':
		return !d.colon
	case '*':
		return !d.colon || !d.at
	case '^':
		return !d.colon || p.lists
	case '[':
		return allowedCondition(d)
	}
	return true
}

func allowedCondition(d directive) bool {
	switch {
	case d.colon && d.at:
		return false
	case d.colon:
		return len(d.parts) == 2
	case d.at:
		return len(d.parts) == 1
	}
	return true
}

// bracket reads the parts of a bracket, and its end.
func (r *reader) bracket(d directive, p place) directive {
	if p.depth == maxNesting {
		fail(api.ErrForm)
	}
	p.depth++
	if d.char == '{' || d.char == '<' {
		p.lists = d.char == '{' && d.colon
	}
	plain := d.char == '[' && !d.colon && !d.at
	for {
		l, end := r.part(p)
		d.parts = append(d.parts, l)
		if end.char != ';' {
			if end.char != closing(d.char) {
				fail(api.ErrForm)
			}
			if d.char == '{' {
				d.final = end.colon
			}
			return d
		}
		// behind a ~; with a colon no other one may stand
		if d.char != '[' && d.char != '<' || d.final || end.colon && !plain {
			fail(api.ErrForm)
		}
		d.final = end.colon
	}
}

func closing(opened byte) byte {
	switch opened {
	case '(':
		return ')'
	case '[':
		return ']'
	case '{':
		return '}'
	}
	return '>'
}

// directive reads a directive without what stands in it.
func (r *reader) directive() directive {
	var d directive
	r.at++
	d.params = r.parameters()
	for r.next() == ':' && !d.colon || r.next() == '@' && !d.at {
		d.colon = d.colon || r.next() == ':'
		d.at = d.at || r.next() == '@'
		r.at++
	}
	d.char = r.next()
	if d.char >= 'a' && d.char <= 'z' {
		d.char -= 'a' - 'A'
	}
	r.at++
	if len(d.params) > mostParameters(d.char) {
		fail(api.ErrForm)
	}
	return d
}

// next returns the next character; 0 at the end, which is no directive, nor a part of one.
func (r *reader) next() byte {
	if r.at == len(r.s) {
		return 0
	}
	return r.s[r.at]
}

// mostParameters returns how many parameters a directive may have; -1 if there is no such directive.
func mostParameters(char byte) int {
	switch char {
	case 'R', 'F':
		return 5
	case 'A', 'S', 'D', 'B', 'O', 'X', '$', '<':
		return 4
	case '^':
		return 3
	case 'T':
		return 2
	case '%', '|', '~', '&', '*', '[', '{':
		return 1
	case 'C', 'P', '\n', '?', '(', ')', ']', '}', '>', ';':
		return 0
	}
	return -1
}

// parameters reads parameters with commas between them.
func (r *reader) parameters() []parameter {
	first := r.parameter()
	if first.kind == absent && r.next() != ',' {
		return nil
	}
	l := []parameter{first}
	for r.next() == ',' {
		r.at++
		l = append(l, r.parameter())
	}
	return l
}

// parameter reads a parameter, which may be empty.
func (r *reader) parameter() parameter {
	switch c := r.next(); c {
	case 'v', 'V':
		r.at++
		return parameter{kind: taken}
	case '#':
		r.at++
		return parameter{kind: counted}
	case '\'':
		r.at++
		if r.at == len(r.s) {
			fail(api.ErrForm)
		}
		c = r.next()
		r.at++
		return parameter{letter, int(c)}
	case '+', '-', '0', '1', '2', '3', '4', '5', '6', '7', '8', '9':
		return r.integer()
	}
	return parameter{}
}

// integer reads a decimal integer.
func (r *reader) integer() parameter {
	start := r.at
	if r.next() == '+' || r.next() == '-' {
		r.at++
	}
	digits := r.at
	for r.next() >= '0' && r.next() <= '9' {
		r.at++
	}
	if n := r.at - digits; n < 1 || n > 9 {
		fail(api.ErrForm)
	}
	n, _ := strconv.Atoi(r.s[start:r.at])
	return parameter{fixed, n}
}
