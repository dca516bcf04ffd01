package format

import (
	"strconv"

	"commonform/api"
	"commonform/forms"
)

// passed passes arguments, or goes back.
func (r *run) passed(d directive, s scene) int {
	v := s.values(d, wantNumber())[0]
	switch {
	case d.at:
		s.args.move(v.or(0))
	case d.colon:
		s.args.move(s.args.next - v.or(1))
	default:
		s.args.move(s.args.next + v.or(1))
	}
	return goesOn
}

// asked performs a control string.
func (r *run) asked(d directive, s scene) int {
	control := s.args.takeString()
	if !d.at {
		s.args = s.args.takeList()
	}
	if s.asked == maxAsked {
		fail(api.ErrFull)
	}
	s.asked++
	r.perform(within(control), s)
	return goesOn
}

// within returns the directives of a control string that is an argument.
func within(control string) []directive {
	l, e := read(control)
	if e != api.OK {
		fail(api.ErrForm)
	}
	return l
}

// cased puts out what stands in it with letters changed.
func (r *run) cased(d directive, s scene) int {
	outer := s.out
	s.out = outer.inner()
	end := r.perform(d.parts[0], s)
	text, _ := Cased(string(s.out.text), d.colon, d.at)
	outer.put(text)
	return end
}

// condition performs one of several parts.
func (r *run) condition(d directive, s scene) int {
	n := s.part(d, s.values(d, wantNumber())[0])
	if n < 0 || n >= len(d.parts) {
		if !d.final {
			return goesOn
		}
		n = len(d.parts) - 1
	}
	return r.perform(d.parts[n], s)
}

// part returns the number of the part that is to be performed; there may be none.
func (s scene) part(d directive, v value) int {
	switch {
	case d.colon:
		if forms.IsNil(s.args.take()) {
			return 0
		}
		return 1
	case d.at:
		if forms.IsNil(s.args.peek()) {
			s.args.take()
			return -1
		}
		return 0
	case v.given:
		return v.n
	}
	x := s.args.take()
	if !isInteger(x) {
		fail(api.ErrType)
	}
	n, failed := strconv.Atoi(x.Text)
	if failed != nil {
		return -1
	}
	return n
}

// iteration performs what stands in it with the elements of a list.
func (r *run) iteration(d directive, s scene) int {
	most := s.values(d, wantNumber())[0].or(-1)
	body := d.parts[0]
	if len(body) == 0 {
		body = within(s.args.takeString())
	}
	list := s.args
	if !d.at {
		list = s.args.takeList()
	}
	for times := 0; times != most; times++ {
		if list.left() == 0 && (times > 0 || !d.final) {
			break
		}
		r.count()
		if end := r.once(d, body, list, s); end == endsAll || end == ends && !d.colon {
			break
		}
	}
	return goesOn
}

// once performs what stands in an iteration one time.
func (r *run) once(d directive, body []directive, list *arguments, s scene) int {
	s.args = list
	if d.colon {
		s.args, s.lists = &arguments{}, list
		if list.left() > 0 {
			s.args = list.takeList()
		}
	}
	return r.perform(body, s)
}

// justified spreads the outputs of its parts over a width.
func (r *run) justified(d directive, s scene) int {
	v := s.values(d, wantNumber(), wantSteps(), wantNumber(), wantCharacter())
	outer := s.out
	var texts []string
	for _, part := range d.parts {
		r.count()
		s.out = outer.inner()
		if r.perform(part, s) != goesOn {
			break
		}
		texts = append(texts, string(s.out.text))
	}
	if len(texts) == 0 {
		return goesOn
	}
	text, e := Justified(texts, v[0].or(0), v[1].or(1), v[2].or(0), v[3].text(' '), d.colon, d.at)
	if e != api.OK {
		fail(api.ErrFull)
	}
	outer.put(text)
	return goesOn
}

// escape ends what it stands in.
func (r *run) escape(d directive, s scene) int {
	integer := wantBetween(-maxParameter, maxParameter)
	v := s.values(d, integer, integer, integer)
	a, b, c := v[0].or(0), v[1].or(0), v[2].or(0)
	done := false
	switch len(d.params) {
	case 0:
		list := s.args
		if d.colon {
			list = s.lists
		}
		done = list.left() == 0
	case 1:
		done = a == 0
	case 2:
		done = a == b
	default:
		done = a <= b && b <= c
	}
	switch {
	case !done:
		return goesOn
	case d.colon:
		return endsAll
	}
	return ends
}
