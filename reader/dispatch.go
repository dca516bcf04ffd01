package reader

import (
	"maps"
	"strconv"
	"strings"
	"unicode/utf8"

	"commonform/api"
	"commonform/forms"
	"commonform/number"
	"commonform/token"
)

// Whether a number stands ahead of a dispatch character.
const (
	without = iota
	optional
	required
)

// dispatch is what is read behind a dispatch character; false stands for what is left out.
type dispatch struct {
	number int
	read   func(*scan, hash) (api.Form, bool)
}

// hash is what stands ahead: the place of #, the number, whether there is one, and the dispatch character.
type hash struct {
	from, n  int
	numbered bool
	char     rune
}

// maxDigits is the greatest number of digits ahead of a dispatch character.
const maxDigits = 3

func dispatches() map[rune]dispatch {
	return map[rune]dispatch{
		'\'': {without, (*scan).function},
		'\\': {without, (*scan).character},
		'(':  {optional, (*scan).vector},
		'*':  {optional, (*scan).bits},
		':':  {without, (*scan).homeless},
		'b':  {without, (*scan).radix},
		'o':  {without, (*scan).radix},
		'x':  {without, (*scan).radix},
		'r':  {required, (*scan).radix},
		'c':  {without, (*scan).complexNumber},
		'a':  {required, (*scan).array},
		'+':  {without, (*scan).feature},
		'-':  {without, (*scan).feature},
		'=':  {required, (*scan).label},
		'#':  {required, (*scan).reference},
	}
}

// hash reads what stands behind #.
func (s *scan) hash(from int) (api.Form, bool) {
	h := hash{from: from}
	digits := s.text[s.at:]
	digits = digits[:len(digits)-len(strings.TrimLeft(digits, "0123456789"))]
	if len(digits) > maxDigits {
		s.fail(ErrHash, from)
	}
	s.at += len(digits)
	h.n, _ = strconv.Atoi(digits)
	h.numbered = digits != ""
	c := s.next()
	h.char = small(c)
	d, ok := s.dispatches[h.char]
	if !ok || d.number == without && h.numbered || d.number == required && !h.numbered {
		s.fail(ErrHash, from)
	}
	return d.read(s, h)
}

// word reads the token that begins here; one without characters, if none does.
func (s *scan) word(h hash) token.Token {
	kind := s.kind()
	if kind != token.Constituent && kind != token.Single && kind != token.Multiple {
		return token.Token{}
	}
	x, end, e := token.Next(s.o.Table, s.text, s.at)
	s.must(e, h.from)
	s.at = end
	return x
}

func (s *scan) function(hash) (api.Form, bool) {
	x := s.form()
	return call("FUNCTION", x), true
}

func (s *scan) character(h hash) (api.Form, bool) {
	c := s.next()
	name := string(c) + s.ending(h)
	if utf8.RuneCountInString(name) > 1 {
		named, ok := Character(name)
		if !ok {
			s.fail(ErrChar, h.from)
		}
		name = string(named)
	}
	return api.Form{Kind: api.FormChar, Text: name}, true
}

// ending reads the characters of the name of a character behind the first one, in their own case.
func (s *scan) ending(h hash) string {
	kind := s.kind()
	if kind != token.Constituent && kind != token.Nonterminating && kind != token.Single && kind != token.Multiple {
		return ""
	}
	// no token begins with a Nonterminating character: it gets one that may begin it ahead
	front := s.constituent()
	table := token.Table{Entries: s.o.Table.Entries, Case: token.Preserve}
	x, end, e := token.Next(table, front+s.text[s.at:], 0)
	s.must(e, h.from)
	s.at += end - len(front)
	return strings.TrimPrefix(token.Text(x), front)
}

// constituent returns a Constituent character. (There are more such ones in ASCII than entries of a readtable.)
func (s *scan) constituent() string {
	c := '!'
	for s.kindOf(c) != token.Constituent {
		c++
	}
	return string(c)
}

// lacking returns how often the last one of some elements has to be repeated.
func (s *scan) lacking(h hash, there int) int {
	if !h.numbered {
		return 0
	}
	if there > h.n || there == 0 && h.n > 0 {
		s.fail(ErrShape, h.from)
	}
	return h.n - there
}

func (s *scan) vector(h hash) (api.Form, bool) {
	x := s.elements()
	if x.dot >= 0 {
		s.fail(ErrDot, x.dot)
	}
	lacking := s.lacking(h, len(x.forms))
	if lacking > 0 && x.labelled {
		s.fail(ErrShape, h.from)
	}
	for range lacking {
		x.forms = append(x.forms, x.forms[len(x.forms)-1])
	}
	return api.Form{Kind: api.FormVector, Kids: x.forms}, true
}

func (s *scan) bits(h hash) (api.Form, bool) {
	x := s.word(h)
	bits := token.Text(x)
	if x.Escapes || strings.Trim(bits, "01") != "" {
		s.fail(api.ErrForm, h.from)
	}
	if lacking := s.lacking(h, len(bits)); lacking > 0 {
		bits += strings.Repeat(bits[len(bits)-1:], lacking)
	}
	return api.Form{Kind: api.FormBits, Text: bits}, true
}

func (s *scan) homeless(h hash) (api.Form, bool) {
	x := s.word(h)
	for i, c := range x.Chars {
		if c == ':' && !x.Escaped[i] {
			s.fail(token.ErrMarker, h.from)
		}
	}
	return api.Form{Kind: api.FormSymbol, Text: token.Text(x)}, true
}

func (s *scan) radix(h hash) (api.Form, bool) {
	base := map[rune]int{'b': 2, 'o': 8, 'x': 16, 'r': h.n}[h.char]
	if base < 2 || base > 36 {
		s.fail(ErrHash, h.from)
	}
	x := s.word(h)
	if x.Escapes {
		s.fail(api.ErrForm, h.from)
	}
	f, e := number.Read(token.Text(x), base, s.o.Double)
	s.must(e, h.from)
	if f.Kind != api.FormInt && f.Kind != api.FormRatio {
		s.fail(api.ErrForm, h.from)
	}
	return f, true
}

func (s *scan) complexNumber(h hash) (api.Form, bool) {
	parts, ok := items(s.form())
	if !ok || len(parts) != 2 || !isReal(parts[0]) || !isReal(parts[1]) {
		s.fail(api.ErrForm, h.from)
	}
	f, e := number.Complex(parts[0], parts[1])
	s.must(e, h.from)
	return f, true
}

func isReal(f api.Form) bool { return forms.Number(f) && f.Kind != api.FormComplex }

func (s *scan) array(h hash) (api.Form, bool) {
	x := s.form()
	f, e := Array(h.n, x)
	s.must(e, h.from)
	return f, true
}

// feature reads an expression, and a form that is there only if the features fulfil it (for +), or do not (for -).
func (s *scan) feature(h hash) (api.Form, bool) {
	pack, references, labels := s.o.Package, len(s.references), maps.Clone(s.labels)
	forget := func() { s.references, s.labels = s.references[:references], maps.Clone(labels) }
	s.o.Package = keyword
	expression := s.form()
	s.o.Package = pack
	forget()
	there, e := Feature(expression, s.o.Features)
	s.must(e, h.from)
	f := s.form()
	if there == (h.char == '+') {
		return f, true
	}
	forget()
	return api.Form{}, false
}

func (s *scan) label(h hash) (api.Form, bool) {
	if s.labels[h.n] {
		s.fail(api.ErrTwice, h.from)
	}
	s.labels[h.n] = true
	x := s.form()
	if x.Kind == api.FormRef || x.Kind == api.FormLabel {
		s.fail(forms.ErrLabel, h.from)
	}
	return api.Form{Kind: api.FormLabel, Text: strconv.Itoa(h.n), Kids: []api.Form{x}}, true
}

func (s *scan) reference(h hash) (api.Form, bool) {
	if !s.labels[h.n] {
		s.fail(forms.ErrLabel, h.from)
	}
	return api.Form{Kind: api.FormRef, Text: strconv.Itoa(h.n)}, true
}
