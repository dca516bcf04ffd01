package rational

import (
	"iter"

	"commonform/api"
	"commonform/integer"
)

// terms yields the elements of the continued fraction of n/d, for d above 0.
func terms(n, d integer.Int) iter.Seq[integer.Int] {
	return func(yield func(integer.Int) bool) {
		for d.Sign() > 0 {
			q, rest := floorOf(n, d)
			if !yield(q) {
				return
			}
			n, d = d, rest
		}
	}
}

// Expansion returns the continued fraction of x.
func (x Ratio) Expansion() []integer.Int {
	var l []integer.Int
	for term := range terms(x.top, x.Denominator()) {
		l = append(l, term)
	}
	return l
}

// Contract returns the fraction with a continued fraction, of any integers.
func Contract(l []integer.Int) (Ratio, api.Errno) {
	if len(l) == 0 {
		return Ratio{}, api.ErrNone
	}
	// n/d stays in lowest terms: what divides l[i] n + d and n divides d
	n, d := l[len(l)-1], integer.New(1)
	for i := len(l) - 2; i >= 0; i-- {
		if n.Sign() == 0 {
			return Ratio{}, api.ErrZero
		}
		n, d = l[i].Mul(n).Add(d), n
	}
	if d.Sign() < 0 {
		n, d = n.Neg(), d.Neg()
	}
	return Ratio{n, d}, api.OK
}

// Simplest returns the simplest fraction between two others.
func Simplest(low, high Ratio) (Ratio, api.Errno) {
	switch {
	case low.Cmp(high) > 0:
		return Ratio{}, api.ErrOrder
	case low.Sign() > 0:
		return simplest(low, high), api.OK
	case high.Sign() < 0:
		return simplest(high.Neg(), low.Neg()).Neg(), api.OK
	}
	return Ratio{}, api.OK
}

// simplest returns the simplest fraction between two that are above 0. Its continued fraction begins as both do, and ends with the least integer that lies between what is left of both.
func simplest(low, high Ratio) Ratio {
	one := integer.New(1)
	a, b := low.top, low.Denominator()
	c, d := high.top, high.Denominator()
	var l []integer.Int
	for {
		q, rest := floorOf(a, b)
		if rest.Sign() == 0 {
			l = append(l, q)
			break
		}
		limit, above := floorOf(c, d)
		if q.Cmp(limit) < 0 {
			l = append(l, q.Add(one))
			break
		}
		l = append(l, q)
		// 1/x turns the order
		a, b, c, d = d, above, b, rest
	}
	x, _ := Contract(l)
	return x
}
