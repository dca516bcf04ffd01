package pretty

import (
	"bytes"
	"strings"

	"commonform/api"
)

// block is a block that is open.
type block struct {
	start       int    // the column behind its prefix
	indentation int    // the column at which its next line begins
	long        bool   // whether the section in which it stands did not fit
	miser       bool   // whether little room is left behind its start
	prefix      string // the text of its Open
	each        bool   // whether that is a prefix of each line
	at          int    // the column of the prefix
	section     section
}

// section is the last section of a block so far.
type section struct {
	from   int // the number of its first operation
	column int // at which it began
	feeds  int // how many line feeds were appended ahead of it
}

// render is a text that is being laid out.
type render struct {
	ops          []Op
	width, miser int
	text         []byte
	line         int // where the present line begins
	column       int
	feeds        int // the line feeds of the text
	blocks       []*block
}

// Render returns the text of operations in lines of a width.
func Render(l []Op, width, miser int) (string, api.Errno) {
	if e := Check(l); e != api.OK {
		return "", e
	}
	if width < 1 || width > maxWidth || miser < 0 || miser > maxWidth {
		return "", api.ErrArg
	}
	r := &render{ops: l, width: width, miser: miser}
	r.blocks = []*block{{long: !r.fits(0, 0, true), miser: width <= miser}}
rendering:
	for i, x := range l {
		switch x.Kind {
		case Newline:
			r.newline(i)
			// spaces at the end of a line may still be removed, but not what stands ahead of it
			if r.line > maxText {
				break rendering
			}
		case Open:
			r.open(i)
		case Close:
			r.append(x.Text)
			r.blocks = r.blocks[:len(r.blocks)-1]
		case Indent:
			r.top().indent(x, r.column)
		default:
			r.append(x.written(r.column))
		}
	}
	if len(r.text) > maxText {
		return "", api.ErrLarge
	}
	return string(r.text), api.OK
}

func (r *render) top() *block { return r.blocks[len(r.blocks)-1] }

// append appends a text.
func (r *render) append(s string) {
	r.text = append(r.text, s...)
	r.column = columnBehind(s, r.column)
	r.feeds += strings.Count(s, "\n")
	if feed := strings.LastIndexByte(s, '\n'); feed >= 0 {
		r.line = len(r.text) - len(s) + feed + 1
	}
}

// advance appends spaces up to a column.
func (r *render) advance(column int) { r.append(strings.Repeat(" ", max(0, column-r.column))) }

// begin returns the section that begins behind an operation.
func (r *render) begin(i int) section { return section{from: i + 1, column: r.column, feeds: r.feeds} }

// open begins a block.
func (r *render) open(i int) {
	x, around := r.ops[i], r.top().section
	b := &block{long: !r.fits(around.from, around.column, false), prefix: x.Text, each: x.Flag, at: r.column}
	r.append(x.Text)
	b.start, b.indentation = r.column, r.column
	b.miser = r.width-b.start <= r.miser
	b.section = r.begin(i)
	r.blocks = append(r.blocks, b)
}

// indent changes where the next line of the block begins.
func (b *block) indent(x Op, column int) {
	if b.miser {
		return
	}
	from := b.start
	if x.Flag {
		from = column
	}
	b.indentation = max(0, from+x.N)
}

// fits reports whether the section that begins with an operation fits in a column; all tells whether no Newline ends it.
func (r *render) fits(from, column int, all bool) bool {
	level, outermost := 0, 0 // of blocks: that of the operation, and the least one so far
	// measure takes an operation, and tells whether it still fits
	measure := func(x Op) bool {
		switch x.Kind {
		case Newline:
			return x.N != Mandatory
		case Text:
			if strings.Contains(x.Text, "\n") {
				return false
			}
		case Open:
			level++
		case Close:
			level--
			outermost = min(outermost, level)
		}
		column = columnBehind(x.written(column), column)
		return column <= r.width
	}
	for _, x := range r.ops[from:] {
		if x.Kind == Newline && level == outermost && !all {
			break
		}
		if !measure(x) {
			return false
		}
	}
	return column <= r.width
}

// newline goes through a Newline.
func (r *render) newline(i int) {
	b := r.top()
	if r.breaks(i, b) {
		r.breakLine(b)
	}
	b.section = r.begin(i)
}

// breaks reports whether a Newline of a block breaks the line.
func (r *render) breaks(i int, b *block) bool {
	narrow := b.long && b.miser
	switch r.ops[i].N {
	case Mandatory:
		return true
	case Linear:
		return b.long
	case Miser:
		return narrow
	}
	return narrow || r.feeds > b.section.feeds || !r.fits(i+1, r.column, false)
}

// breakLine begins a new line, which belongs to a block.
func (r *render) breakLine(b *block) {
	r.text = bytes.TrimRight(r.text, " ")
	r.append("\n")
	for _, around := range r.blocks {
		if around.each {
			r.advance(around.at)
			r.append(around.prefix)
		}
	}
	r.advance(b.indentation)
}
