package format

import "strings"

// repeated puts out a character several times.
func (r *run) repeated(d directive, s scene) int {
	n := s.values(d, wantNumber())[0].or(1)
	text := "~"
	switch d.char {
	case '%':
		text = "\n"
	case '|':
		text = "\f"
	}
	s.out.put(strings.Repeat(text, n))
	return goesOn
}

// fresh puts out line feeds, but for one if a line begins here.
func (r *run) fresh(d directive, s scene) int {
	n := s.values(d, wantNumber())[0].or(1)
	if n > 0 && s.out.column == 0 {
		n--
	}
	s.out.put(strings.Repeat("\n", n))
	return goesOn
}

func (r *run) newline(d directive, s scene) int {
	s.out.put(d.text)
	return goesOn
}

// column puts out spaces up to a column.
func (r *run) column(d directive, s scene) int {
	v := s.values(d, wantNumber(), wantNumber())
	n, step := v[0].or(1), v[1].or(1)
	if d.at {
		if step > 0 {
			n += (step - (s.out.column+n)%step) % step
		}
	} else {
		n = distance(s.out.column, n, step)
	}
	s.out.put(strings.Repeat(" ", n))
	return goesOn
}

// distance returns how far it is from a column to another one, or, if this is reached already, to the next one that a number of steps leads to.
func distance(from, to, step int) int {
	switch {
	case from < to:
		return to - from
	case step == 0:
		return 0
	}
	return step - (from-to)%step
}
