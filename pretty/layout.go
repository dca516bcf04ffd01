package pretty

import (
	"commonform/api"
	"commonform/forms"
	"commonform/notation"
	"commonform/printer"
)

const (
	maxStyles = 100
	maxArgs   = 10
)

// Styles returns the usual styles.
func Styles() []Style {
	return []Style{
		{"DEFUN", 2}, {"DEFMACRO", 2}, {"LAMBDA", 1}, {"LET", 1}, {"LET*", 1}, {"FLET", 1}, {"LABELS", 1}, {"MACROLET", 1}, {"SYMBOL-MACROLET", 1},
		{"WHEN", 1}, {"UNLESS", 1}, {"DOLIST", 1}, {"DOTIMES", 1}, {"BLOCK", 1}, {"CATCH", 1}, {"EVAL-WHEN", 1}, {"HANDLER-BIND", 1}, {"PROGN", 0},
		{"UNWIND-PROTECT", 1}, {"MULTIPLE-VALUE-BIND", 2}, {"DESTRUCTURING-BIND", 2}, {"DEFCLASS", 2}, {"CASE", 1}, {"COND", 0}, {"IF", 1},
	}
}

// Print returns the text of a form in lines of a width.
func Print(o printer.Options, f api.Form, width, miser int) (string, api.Errno) {
	l, e := Layout(o, Styles(), f)
	if e != api.OK {
		return "", e
	}
	return Render(l, width, miser)
}

// Layout returns the operations for a form.
func Layout(o printer.Options, styles []Style, f api.Form) ([]Op, api.Errno) {
	if e := layoutError(o, styles, f); e != api.OK {
		return nil, e
	}
	object := forms.Plain
	if o.Circle {
		object = forms.Normal
	}
	f, _ = object(f)
	p := &page{o: o, styles: styles}
	notation.Write(p, notation.Limits{Length: o.Length, Level: o.Level, Abbrev: o.Abbrev}, f)
	if e := Check(p.ops); e != api.OK {
		return nil, e
	}
	return p.ops, api.OK
}

// layoutError returns the first error that is found ahead of the operations.
func layoutError(o printer.Options, styles []Style, f api.Form) api.Errno {
	if e := printer.Check(o); e != api.OK {
		return e
	}
	if len(styles) > maxStyles {
		return api.ErrSize
	}
	for _, x := range styles {
		if x.Args < 0 || x.Args > maxArgs {
			return api.ErrArg
		}
	}
	_, e := printer.Print(o, f)
	return e
}

// gaps says what stands between the elements of a list.
type gaps struct {
	symbol bool // whether the first element is a symbol
	styled bool
	args   int // of the style
}

// page makes operations of the parts of a text that printer.Print can write.
type page struct {
	o      printer.Options
	styles []Style
	ops    []Op
	lists  []gaps // those that are open
}

// Text takes a text.
func (p *page) Text(s string) { p.ops = append(p.ops, Op{Kind: Text, Text: s}) }

// Open begins a list, which belongs to a form.
func (p *page) Open(prefix string, f api.Form) {
	p.ops = append(p.ops, Op{Kind: Open, Text: prefix})
	p.lists = append(p.lists, p.gapsOf(f))
}

// gapsOf returns what stands between the elements of a list that belongs to a form.
func (p *page) gapsOf(f api.Form) gaps {
	if f.Kind != api.FormCons || f.Kids[0].Kind != api.FormSymbol {
		return gaps{}
	}
	for _, x := range p.styles {
		if forms.Is(f.Kids[0], "COMMON-LISP", x.Name) {
			return gaps{symbol: true, styled: true, args: x.Args}
		}
	}
	return gaps{symbol: true}
}

// Gap parts the element with a number from what stands behind it.
func (p *page) Gap(i int) {
	g := p.lists[len(p.lists)-1]
	p.Text(" ")
	if i == 0 && g.symbol {
		p.firstGap(g)
		return
	}
	kind := Linear
	switch {
	case !g.symbol, g.styled && i < g.args:
		kind = Fill
	case g.styled:
		p.indent(1, false)
	}
	p.newline(kind)
}

// firstGap parts a symbol from its arguments.
func (p *page) firstGap(g gaps) {
	if !g.styled {
		p.indent(0, true)
		return
	}
	p.indent(3, false)
	if g.args == 0 {
		p.indent(1, false)
		p.newline(Linear)
	}
}

func (p *page) indent(n int, present bool) {
	p.ops = append(p.ops, Op{Kind: Indent, N: n, Flag: present})
}

func (p *page) newline(kind int) { p.ops = append(p.ops, Op{Kind: Newline, N: kind}) }

// Close ends a list.
func (p *page) Close() {
	p.ops = append(p.ops, Op{Kind: Close, Text: ")"})
	p.lists = p.lists[:len(p.lists)-1]
}

// Atom returns the text of a form without elements.
func (p *page) Atom(f api.Form) string {
	s, _ := printer.Print(p.o, f)
	return s
}

// Whole reports whether an array is written with its elements.
func (p *page) Whole(api.Form) bool { return p.o.Array }
