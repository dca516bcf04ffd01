package reader

import (
	"strings"
	"unicode/utf8"

	"commonform/api"
	"commonform/number"
	"commonform/token"
)

const (
	lisp    = "COMMON-LISP"
	keyword = "KEYWORD"
	own     = "READER" // the Home of the symbols of the reader
)

// scan goes through a text.
type scan struct {
	o          Options
	text       string
	at         int
	depth      int          // how many forms were begun, and have not ended
	level      int          // how many backquotes are open
	labels     map[int]bool // those that were defined
	references []Reference
	macros     map[rune]func(*scan, int) (api.Form, bool)
	dispatches map[rune]dispatch
}

// fail stops the reading.
func (s *scan) fail(e api.Errno, at int) {
	if e == api.ErrEnd {
		at = len(s.text)
	}
	panic(failure{code: e, at: at})
}

// must stops the reading, if there is an error.
func (s *scan) must(e api.Errno, at int) {
	if e != api.OK {
		s.fail(e, at)
	}
}

func (s *scan) ended() bool { return s.at == len(s.text) }

// next takes a character.
func (s *scan) next() rune {
	if s.ended() {
		s.fail(api.ErrEnd, s.at)
	}
	c, size := utf8.DecodeRuneInString(s.text[s.at:])
	s.at += size
	return c
}

func (s *scan) kindOf(c rune) int {
	kind, _ := token.Kind(s.o.Table, c)
	return kind
}

// kind returns the kind of the next character; Invalid at the end.
func (s *scan) kind() int {
	if s.ended() {
		return token.Invalid
	}
	c, _ := utf8.DecodeRuneInString(s.text[s.at:])
	return s.kindOf(c)
}

// begins reports whether a macro character, and perhaps more, stands here.
func (s *scan) begins(mark string) bool {
	kind := s.kind()
	return (kind == token.Terminating || kind == token.Nonterminating) && s.follows(mark)
}

func (s *scan) follows(mark string) bool { return strings.HasPrefix(s.text[s.at:], mark) }

// blank leaves out White characters and comments.
func (s *scan) blank() {
leaving:
	for {
		s.at, _ = token.Skip(s.o.Table, s.text, s.at)
		switch {
		case s.begins(";"):
			s.line()
		case s.begins("#|"):
			s.comment()
		default:
			break leaving
		}
	}
}

// line leaves out what stands ahead of the next line feed.
func (s *scan) line() {
	rest := strings.IndexByte(s.text[s.at:], '\n')
	if rest < 0 {
		rest = len(s.text) - s.at
	}
	s.at += rest
}

// comment leaves out a comment between bars, with those within it.
func (s *scan) comment() {
	for open := 0; ; {
		switch {
		case s.follows("#|"):
			open++
			s.at += 2
		case s.follows("|#"):
			open--
			s.at += 2
		default:
			s.next()
		}
		if open == 0 {
			return
		}
	}
}

// form reads a form.
func (s *scan) form() api.Form {
	for {
		s.blank()
		if f, ok := s.item(); ok {
			return f
		}
	}
}

// item reads the form that begins here; false, if it is left out.
func (s *scan) item() (api.Form, bool) {
	from := s.at
	if s.ended() {
		s.fail(api.ErrEnd, from)
	}
	if s.depth == api.MaxDepth {
		s.fail(api.ErrSize, from)
	}
	s.depth++
	f, ok := s.begun(from)
	s.depth--
	return f, ok
}

// begun reads a form by the kind of its first character.
func (s *scan) begun(from int) (api.Form, bool) {
	switch s.kind() {
	case token.Invalid:
		s.fail(token.ErrInvalid, from)
	case token.Terminating, token.Nonterminating:
		c := s.next()
		read, ok := s.macros[c]
		if !ok {
			s.fail(ErrMacro, from)
		}
		return read(s, from)
	}
	return s.atom(from), true
}

// atom reads a token: a number or a symbol.
func (s *scan) atom(from int) api.Form {
	x, end, e := token.Next(s.o.Table, s.text, from)
	s.must(e, from)
	s.at = end
	if !x.Escapes {
		f, e := number.Read(token.Text(x), s.o.Base, s.o.Double)
		if e != api.ErrForm {
			s.must(e, from)
			return f
		}
	}
	name, e := token.Split(x)
	s.must(e, from)
	return s.symbol(name, from)
}

// symbol returns the symbol that a token names, and keeps it as a reference.
func (s *scan) symbol(name token.Name, at int) api.Form {
	home := name.Package
	switch name.Kind {
	case token.Symbol:
		home = s.o.Package
	case token.Keyword:
		home = keyword
	}
	s.references = append(s.references, Reference{Home: home, Name: name.Name, External: name.Kind == token.External, At: at})
	return api.Form{Kind: api.FormSymbol, Text: name.Name, Home: home}
}

// closes reports whether the bracket that ends a list stands here.
func (s *scan) closes() bool { return s.begins(")") }

// dot takes a token that is just a dot, if there is one.
func (s *scan) dot() bool {
	if !s.follows(".") {
		return false
	}
	x, end, e := token.Next(s.o.Table, s.text, s.at)
	if e != api.OK || token.Dots(x) != 1 {
		return false
	}
	s.at = end
	return true
}

// elements are what stands between brackets.
type elements struct {
	forms    []api.Form
	labelled bool // whether there is a label in the last one
	dot      int  // the place of the dot behind them; below 0 for none
}

// elements reads forms up to the closing bracket, which is taken, or to a dot.
func (s *scan) elements() elements {
	x := elements{dot: -1}
	for {
		s.blank()
		if s.closes() {
			s.at++
			return x
		}
		at := s.at
		if s.dot() {
			x.dot = at
			return x
		}
		before := len(s.labels)
		if f, ok := s.item(); ok {
			x.forms = append(x.forms, f)
			x.labelled = len(s.labels) > before
		}
	}
}
