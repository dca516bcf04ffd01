package reader

import (
	"strings"

	"commonform/api"
	"commonform/forms"
	"commonform/token"
)

// macros returns what is read behind each macro character, whose place it gets; false stands for what is left out. (Comments are blanks.)
func macros() map[rune]func(*scan, int) (api.Form, bool) {
	return map[rune]func(*scan, int) (api.Form, bool){
		'"':  (*scan).quotation,
		'\'': (*scan).quote,
		'(':  (*scan).list,
		')':  (*scan).bracket,
		'`':  (*scan).backquote,
		',':  (*scan).comma,
		'#':  (*scan).hash,
	}
}

func (s *scan) quotation(int) (api.Form, bool) {
	var b strings.Builder
	for {
		c := s.next()
		if c == '"' {
			return api.Form{Kind: api.FormString, Text: b.String()}, true
		}
		if s.kindOf(c) == token.Single {
			c = s.next()
		}
		b.WriteRune(c)
	}
}

func (s *scan) quote(int) (api.Form, bool) {
	x := s.form()
	return call("QUOTE", x), true
}

func (s *scan) list(int) (api.Form, bool) {
	x := s.elements()
	if x.dot < 0 {
		return list(x.forms...), true
	}
	if len(x.forms) == 0 {
		s.fail(ErrDot, x.dot)
	}
	tail := s.form()
	s.blank()
	if s.ended() {
		s.fail(api.ErrEnd, s.at)
	}
	if !s.closes() {
		s.fail(ErrDot, x.dot)
	}
	s.at++
	return dotted(x.forms, tail), true
}

func (s *scan) bracket(from int) (api.Form, bool) {
	s.fail(ErrClose, from)
	return api.Form{}, false
}

func (s *scan) backquote(int) (api.Form, bool) {
	s.level++
	x := s.form()
	s.level--
	return list(forms.Symbol(own, "BACKQUOTE"), x), true
}

func (s *scan) comma(from int) (api.Form, bool) {
	if s.level == 0 {
		s.fail(ErrComma, from)
	}
	name := "COMMA"
	if s.follows("@") {
		s.at++
		name = "SPLICE"
	}
	s.level--
	x := s.form()
	s.level++
	return list(forms.Symbol(own, name), x), true
}
