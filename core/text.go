package core

import (
	"strconv"
	"strings"

	"commonform/api"
)

// maxText is how many bytes a text may have that is read.
const maxText = 20000

// Show returns the text of a core tree.
func Show(c api.Core) (string, api.Errno) {
	if Check(c) != api.OK {
		return "", api.ErrForm
	}
	var w writer
	w.tree(c)
	return w.String(), api.OK
}

// writer writes the text of a right core tree.
type writer struct{ strings.Builder }

func (w *writer) tree(c api.Core) {
	s := shapes[c.Op]
	w.WriteString("(" + s.name)
	if s.has(fieldN) {
		w.WriteString(" " + strconv.Itoa(c.N))
	}
	if s.has(fieldVars) {
		var l []string
		for _, v := range c.Vars {
			l = append(l, strconv.Itoa(v))
		}
		w.WriteString(" [" + strings.Join(l, " ") + "]")
	}
	if s.has(fieldSyms) {
		w.WriteString(" [")
		w.forms(c.Syms)
		w.WriteString("]")
	}
	for _, p := range c.Pars {
		w.parameter(p)
	}
	if s.has(fieldData) {
		w.WriteString(" ")
		w.form(c.Data)
	}
	for _, kid := range c.Kids {
		w.WriteString(" ")
		w.tree(kid)
	}
	w.WriteString(")")
}

func (w *writer) parameter(p api.Param) {
	w.WriteString(" {" + strconv.Itoa(p.Kind) + " " + strconv.Itoa(p.Var) + " " + strconv.Itoa(p.Given) + " ")
	if p.Kind == api.ParamKey {
		w.form(p.Key)
	} else {
		w.WriteString("-")
	}
	w.WriteString("}")
}

func (w *writer) forms(l []api.Form) {
	for i, f := range l {
		if i > 0 {
			w.WriteString(" ")
		}
		w.form(f)
	}
}

func (w *writer) form(f api.Form) {
	w.WriteString(strconv.Itoa(f.Kind) + ":" + escaped(f.Home) + ":" + escaped(f.Text))
	if len(f.Kids) > 0 {
		w.WriteString("(")
		w.forms(f.Kids)
		w.WriteString(")")
	}
}

// isPlain reports whether a byte stands for itself in the text of a form.
func isPlain(b byte) bool {
	return 'a' <= b && b <= 'z' || 'A' <= b && b <= 'Z' || '0' <= b && b <= '9' || strings.IndexByte("-*+/<>=%&", b) >= 0
}

func escaped(s string) string {
	const digits = "0123456789abcdef"
	var w strings.Builder
	for i := range len(s) {
		if isPlain(s[i]) {
			w.WriteByte(s[i])
		} else {
			w.WriteString("~" + digits[s[i]>>4:s[i]>>4+1] + digits[s[i]&15:s[i]&15+1])
		}
	}
	return w.String()
}

// Parse returns the core tree with a text.
func Parse(s string) (tree api.Core, e api.Errno) {
	if len(s) > maxText {
		return api.Core{}, api.ErrSize
	}
	defer func() {
		if recover() != nil {
			tree, e = api.Core{}, api.ErrForm
		}
	}()
	p := parser{left: s}
	c := p.tree()
	// What is read is not all that the texts must keep to: numbers and letters may be written in other ways.
	if back, e := Show(c); e != api.OK || back != s {
		return api.Core{}, api.ErrForm
	}
	return c, api.OK
}

// parser reads a text; it panics where it is none.
type parser struct{ left string }

// skip reads a text that must stand here.
func (p *parser) skip(s string) {
	if !p.at(s) {
		panic(api.ErrForm)
	}
}

// at reads a text, if it stands here.
func (p *parser) at(s string) bool {
	rest, ok := strings.CutPrefix(p.left, s)
	p.left = rest
	return ok
}

// word reads what stands ahead of the next one of some bytes.
func (p *parser) word(ends string) string {
	i := strings.IndexAny(p.left, ends)
	if i < 0 {
		panic(api.ErrForm)
	}
	word := p.left[:i]
	p.left = p.left[i:]
	return word
}

func (p *parser) number() int {
	n, err := strconv.Atoi(p.word(" ]})("))
	if err != nil {
		panic(api.ErrForm)
	}
	return n
}

func (p *parser) tree() api.Core {
	p.skip("(")
	c := api.Core{Op: opOf(p.word(" )"))}
	s := shapes[c.Op]
reading:
	for {
		switch {
		case p.at(")"):
			break reading
		case p.at(" {"):
			c.Pars = append(c.Pars, p.parameter())
		case strings.HasPrefix(p.left, " ("):
			p.skip(" ")
			c.Kids = append(c.Kids, p.tree())
		case s.has(fieldVars) && p.at(" ["):
			for !p.at("]") {
				c.Vars = append(c.Vars, p.number())
				p.at(" ")
			}
		case s.has(fieldSyms) && p.at(" ["):
			c.Syms = p.forms("]")
		case s.has(fieldN) && p.at(" "):
			c.N = p.number()
		default:
			p.skip(" ")
			c.Data = p.form()
		}
	}
	return c
}

// opOf returns the op with a name.
func opOf(name string) int {
	for op, s := range shapes {
		if s.name == name && op > 0 {
			return op
		}
	}
	panic(api.ErrForm)
}

func (p *parser) parameter() api.Param {
	var x api.Param
	x.Kind = p.number()
	p.skip(" ")
	x.Var = p.number()
	p.skip(" ")
	x.Given = p.number()
	p.skip(" ")
	if !p.at("-}") {
		x.Key = p.form()
		p.skip("}")
	}
	return x
}

// forms reads forms up to what ends them.
func (p *parser) forms(end string) []api.Form {
	var l []api.Form
	for !p.at(end) {
		l = append(l, p.form())
		p.at(" ")
	}
	return l
}

func (p *parser) form() api.Form {
	kind, err := strconv.Atoi(p.word(":"))
	if err != nil {
		panic(api.ErrForm)
	}
	p.skip(":")
	f := api.Form{Kind: kind}
	f.Home = unescaped(p.word(":"))
	p.skip(":")
	f.Text = unescaped(p.word(" ()]}"))
	if p.at("(") {
		f.Kids = p.forms(")")
	}
	return f
}

// unescaped returns the bytes of a name. What is not written as it must be does not matter: it is written anew and compared.
func unescaped(s string) string {
	var w strings.Builder
	for len(s) > 0 {
		if s[0] != '~' || len(s) < 3 {
			w.WriteByte(s[0])
			s = s[1:]
			continue
		}
		b, err := strconv.ParseUint(s[1:3], 16, 8)
		if err != nil {
			panic(api.ErrForm)
		}
		w.WriteByte(byte(b))
		s = s[3:]
	}
	return w.String()
}
