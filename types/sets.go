package types

import (
	"slices"
	"strconv"
	"strings"

	"commonform/api"
	"commonform/forms"
)

// The numbers of the sets without objects, and with all of them.
const (
	none = iota
	all
)

// set is a set of objects: which classes of those that are no conses are in it, as 0s and 1s, and which conses.
// Equal sets have one number: a car is in at most one pair, and no two pairs have the same cdrs.
type set struct {
	classes string
	pairs   []pair
}

// pair stands for all conses whose car is in one set, and whose cdr is in another one.
type pair struct{ cars, cdrs int }

// universe has the sets that are made of some types.
type universe struct {
	samples []api.Form // an object of each class
	sets    []set
	numbers map[string]int // by the texts of sets
	meets   map[[2]int]int
	rests   map[int]int
}

func newUniverse(specs ...spec) *universe {
	f := newField(specs...)
	u := &universe{numbers: map[string]int{}, meets: map[[2]int]int{}, rests: map[int]int{}}
	met := map[string]bool{}
	for _, x := range f.samples() {
		answers := f.answers(x)
		if !met[answers] {
			met[answers] = true
			u.samples = append(u.samples, x)
		}
	}
	n := len(u.samples)
	u.number(strings.Repeat("0", n), nil)
	u.number(strings.Repeat("1", n), []pair{{all, all}})
	return u
}

// answers returns of which atoms an object is.
func (f field) answers(x api.Form) string {
	answers := make([]byte, len(f.atoms))
	for i, t := range f.atoms {
		answers[i] = digit(t.has(x))
	}
	return string(answers)
}

func digit(b bool) byte {
	if b {
		return '1'
	}
	return '0'
}

// number returns the number of a set.
func (u *universe) number(classes string, pairs []pair) int {
	pairs = u.joined(pairs)
	key := classes
	for _, p := range pairs {
		key += " " + strconv.Itoa(p.cars) + " " + strconv.Itoa(p.cdrs)
	}
	n, known := u.numbers[key]
	if !known {
		n = len(u.sets)
		u.numbers[key] = n
		u.sets = append(u.sets, set{classes, pairs})
	}
	return n
}

// joined returns pairs with different cars as pairs with different cdrs.
func (u *universe) joined(pairs []pair) []pair {
	cars := map[int]int{}
	var l []pair
	for _, p := range pairs {
		if p.cars == none || p.cdrs == none {
			continue
		}
		if _, known := cars[p.cdrs]; !known {
			l = append(l, pair{cdrs: p.cdrs})
		}
		cars[p.cdrs] = u.join(cars[p.cdrs], p.cars)
	}
	for i := range l {
		l[i].cars = cars[l[i].cdrs]
	}
	slices.SortFunc(l, func(p, q pair) int { return p.cdrs - q.cdrs })
	return l
}

// meet returns the objects that are in both sets.
func (u *universe) meet(x, y int) int {
	switch {
	case x == none || y == none:
		return none
	case x == all || x == y:
		return y
	case y == all:
		return x
	}
	key := [2]int{x, y}
	if n, known := u.meets[key]; known {
		return n
	}
	a, b := u.sets[x], u.sets[y]
	classes := make([]byte, len(a.classes))
	for i := range classes {
		classes[i] = min(a.classes[i], b.classes[i])
	}
	var pairs []pair
	for _, p := range a.pairs {
		for _, q := range b.pairs {
			pairs = append(pairs, pair{u.meet(p.cars, q.cars), u.meet(p.cdrs, q.cdrs)})
		}
	}
	n := u.number(string(classes), pairs)
	u.meets[key] = n
	return n
}

// rest returns the objects that are not in a set.
func (u *universe) rest(x int) int {
	if x == none || x == all {
		return all - x
	}
	if n, known := u.rests[x]; known {
		return n
	}
	a := u.sets[x]
	classes := []byte(a.classes)
	for i, c := range classes {
		classes[i] = digit(c == '0')
	}
	left := all
	var pairs []pair
	for _, p := range a.pairs {
		left = u.without(left, p.cars)
		pairs = append(pairs, pair{p.cars, u.rest(p.cdrs)})
	}
	n := u.number(string(classes), append(pairs, pair{left, all}))
	u.rests[x] = n
	return n
}

// join returns the objects that are in one of two sets.
func (u *universe) join(x, y int) int { return u.rest(u.meet(u.rest(x), u.rest(y))) }

// without returns the objects that are in one set, and not in another one.
func (u *universe) without(x, y int) int { return u.meet(x, u.rest(y)) }

// divided returns the classes that a set makes of some.
func (u *universe) divided(classes []int, by int) []int {
	var l []int
	for _, c := range classes {
		for _, part := range [...]int{u.meet(c, by), u.without(c, by)} {
			if part != none {
				l = append(l, part)
			}
		}
	}
	return l
}

// set returns the set of the objects of a type.
func (u *universe) set(t spec) int {
	n := none
	switch t.kind {
	case ofAll:
		n = all
		for _, kid := range t.kids {
			n = u.meet(n, u.set(kid))
		}
	case ofOne:
		for _, kid := range t.kids {
			n = u.join(n, u.set(kid))
		}
	case ofNone:
		n = u.rest(u.set(t.kids[0]))
	case ofConses:
		pairs := []pair{{u.set(t.kids[0]), u.set(t.kids[1])}}
		n = u.number(u.sets[none].classes, pairs)
	default:
		n = u.atom(t)
	}
	return n
}

// atom returns the set of the objects of a type without parts.
func (u *universe) atom(t spec) int {
	classes := make([]byte, len(u.samples))
	for i, x := range u.samples {
		classes[i] = digit(t.has(x))
	}
	var pairs []pair
	if t.sorts&isCons != 0 {
		pairs = []pair{{all, all}}
	}
	return u.number(string(classes), pairs)
}

// object returns an object of a set that has one.
func (u *universe) object(n int) api.Form {
	s := u.sets[n]
	if i := strings.IndexByte(s.classes, '1'); i >= 0 {
		return forms.Dotted(nil, u.samples[i])
	}
	p := s.pairs[0]
	return forms.Dotted([]api.Form{u.object(p.cars)}, u.object(p.cdrs))
}

// emptiness reports whether a set has no objects; otherwise it returns one.
func (u *universe) emptiness(n int) (bool, api.Form, api.Errno) {
	if n == none {
		return true, api.Form{}, api.OK
	}
	return false, u.object(n), api.OK
}
