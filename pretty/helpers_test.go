package pretty_test

import (
	"math/rand"
	"strings"
	"unicode/utf8"

	"commonform/pretty"
)

func text(s string) pretty.Op { return pretty.Op{Kind: pretty.Text, Text: s} }

func newline(kind int) pretty.Op { return pretty.Op{Kind: pretty.Newline, N: kind} }

func open(s string) pretty.Op { return pretty.Op{Kind: pretty.Open, Text: s} }

// each opens a block with a prefix of each line.
func each(s string) pretty.Op { return pretty.Op{Kind: pretty.Open, Text: s, Flag: true} }

func end(s string) pretty.Op { return pretty.Op{Kind: pretty.Close, Text: s} }

func indent(n int) pretty.Op { return pretty.Op{Kind: pretty.Indent, N: n} }

// here indents from the present column on.
func here(n int) pretty.Op { return pretty.Op{Kind: pretty.Indent, N: n, Flag: true} }

func tab(n, m int) pretty.Op { return pretty.Op{Kind: pretty.Tab, N: n, M: m} }

// by is a tab from the present column on.
func by(n, m int) pretty.Op { return pretty.Op{Kind: pretty.Tab, N: n, M: m, Flag: true} }

// row returns the block (aa bb cc) with newlines of a kind.
func row(kind int) []pretty.Op {
	return []pretty.Op{open("("), text("aa"), text(" "), newline(kind), text("bb"), text(" "), newline(kind), text("cc"), end(")")}
}

// block is a block as a tree: what stands in it, and where it stands.
type block struct {
	around *block
	at     int // its place in the block around it
	parts  []part
	close  pretty.Op
}

// part is an operation, or the block that an Open begins.
type part struct {
	op    pretty.Op
	block *block
}

// tree returns the outermost block of operations.
func tree(l []pretty.Op) *block {
	top := &block{}
	for _, x := range l {
		switch x.Kind {
		case pretty.Open:
			inner := &block{around: top, at: len(top.parts)}
			top.parts = append(top.parts, part{x, inner})
			top = inner
		case pretty.Close:
			top.close = x
			top = top.around
		default:
			top.parts = append(top.parts, part{op: x})
		}
	}
	return top
}

// all returns the operations of parts.
func all(l []part) []pretty.Op {
	var ops []pretty.Op
	for _, x := range l {
		ops = append(ops, x.op)
		if x.block != nil {
			ops = append(append(ops, all(x.block.parts)...), x.block.close)
		}
	}
	return ops
}

// stretch returns the operations of the section that begins with a part of the block, and those behind it that count.
func (b *block) stretch(from int) []pretty.Op {
	for i := from; i < len(b.parts); i++ {
		if b.parts[i].op.Kind == pretty.Newline {
			return all(b.parts[from:i])
		}
	}
	ops := all(b.parts[from:])
	if b.around != nil {
		ops = append(append(ops, b.close), b.around.stretch(b.at+1)...)
	}
	return ops
}

// paper is what the simple renderer writes on.
type paper struct {
	out          string
	width, miser int
}

func (p *paper) column() int {
	return utf8.RuneCountInString(p.out[strings.LastIndex(p.out, "\n")+1:])
}

func (p *paper) fits(ops []pretty.Op) bool {
	line := &paper{out: strings.Repeat("x", p.column())}
	for _, x := range ops {
		if x.Kind == pretty.Newline && x.N == pretty.Mandatory || x.Kind == pretty.Text && strings.Contains(x.Text, "\n") {
			return false
		}
		line.put(x)
	}
	return line.column() <= p.width
}

// put writes a text or a tab.
func (p *paper) put(x pretty.Op) {
	switch x.Kind {
	case pretty.Text, pretty.Open, pretty.Close:
		p.out += x.Text
	case pretty.Tab:
		column := p.column()
		to := column
		switch {
		case x.Flag:
			for to = column + x.N; x.M > 0 && to%x.M > 0; to++ {
			}
		case column < x.N:
			to = x.N
		case x.M > 0:
			for to = x.N; to <= column; to += x.M {
			}
		}
		p.out += strings.Repeat(" ", to-column)
	}
}

// prefix is one of each line.
type prefix struct {
	text   string
	column int
}

// render writes a block, whose prefix is written; long tells whether the section around it did not fit.
func (p *paper) render(b *block, long bool, prefixes []prefix) {
	start := p.column()
	indentation, narrow := start, p.width-start <= p.miser
	begun, feeds := !p.fits(b.stretch(0)), strings.Count(p.out, "\n")
	for i, x := range b.parts {
		switch {
		case x.block != nil:
			column := p.column()
			p.put(x.op)
			inner := append([]prefix(nil), prefixes...)
			if x.op.Flag {
				inner = append(inner, prefix{x.op.Text, column})
			}
			p.render(x.block, begun, inner)
			p.put(x.block.close)
		case x.op.Kind == pretty.Indent && !narrow:
			indentation = start + x.op.N
			if x.op.Flag {
				indentation = p.column() + x.op.N
			}
		case x.op.Kind == pretty.Newline:
			section := !p.fits(b.stretch(i+1)) || strings.Count(p.out, "\n") > feeds || long && narrow
			if []bool{long, section, long && narrow, true}[x.op.N] {
				p.breakLine(prefixes, indentation)
			}
			begun, feeds = !p.fits(b.stretch(i+1)), strings.Count(p.out, "\n")
		default:
			p.put(x.op)
		}
	}
}

func (p *paper) breakLine(prefixes []prefix, indentation int) {
	p.out = strings.TrimRight(p.out, " ") + "\n"
	fill := func(column int) { p.out += strings.Repeat(" ", max(0, column-p.column())) }
	for _, x := range prefixes {
		fill(x.column)
		p.out += x.text
	}
	fill(indentation)
}

// simple renders operations that are right in the simplest way.
func simple(l []pretty.Op, width, miser int) string {
	p := &paper{width: width, miser: miser}
	p.render(tree(l), !p.fits(l), nil)
	return p.out
}

// anyOps returns random operations that are right.
func anyOps(r *rand.Rand, n int) []pretty.Op {
	var l []pretty.Op
	depth := 0
	for range n {
		switch r.Intn(14) {
		case 0, 1, 2, 3:
			l = append(l, text([]string{"", "a", "bb", "ccc d", "é☺", " ", "eeeeeee", "f "}[r.Intn(8)]))
		case 4, 5, 6, 7:
			if r.Intn(2) == 0 {
				l = append(l, text(" "))
			}
			l = append(l, newline([]int{pretty.Linear, pretty.Fill, pretty.Fill, pretty.Miser, pretty.Linear, pretty.Mandatory}[r.Intn(6-r.Intn(2))]))
		case 8, 9:
			l = append(l, pretty.Op{Kind: pretty.Open, Text: []string{"(", "", "#2A(", "; ", "é"}[r.Intn(5)], Flag: r.Intn(4) == 0})
			depth++
		case 10:
			l = append(l, pretty.Op{Kind: pretty.Indent, N: r.Intn(9) - 4, Flag: r.Intn(2) == 0})
		case 11:
			l = append(l, pretty.Op{Kind: pretty.Tab, N: r.Intn(6), M: r.Intn(5), Flag: r.Intn(2) == 0})
		case 12:
			if depth > 0 {
				l = append(l, end([]string{")", "", " *"}[r.Intn(3)]))
				depth--
			}
		case 13:
			if r.Intn(6) == 0 {
				l = append(l, text("x\ny"))
			}
		}
	}
	for range depth {
		l = append(l, end(")"))
	}
	return l
}

// without returns operations without those of some kinds.
func without(l []pretty.Op, drop func(x pretty.Op) bool) []pretty.Op {
	var out []pretty.Op
	for _, x := range l {
		if !drop(x) {
			out = append(out, x)
		}
	}
	return out
}
