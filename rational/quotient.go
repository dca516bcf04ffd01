package rational

import (
	"commonform/api"
	"commonform/integer"
)

// Ways of rounding a quotient to an integer.
const (
	Floor = iota
	Ceiling
	Truncate
	Round
)

// rounding tells whether a quotient that is no integer is rounded up: floor is the greatest integer below it, and half the sign of what lies above this, less 1/2.
type rounding func(floor integer.Int, half int) bool

func roundings() [4]rounding {
	return [4]rounding{
		Floor:    func(floor integer.Int, half int) bool { return false },
		Ceiling:  func(floor integer.Int, half int) bool { return true },
		Truncate: func(floor integer.Int, half int) bool { return floor.Sign() < 0 },
		Round:    func(floor integer.Int, half int) bool { return half > 0 || half == 0 && floor.Odd() },
	}
}

// Quotient returns x/y, rounded to an integer, and the remainder.
func (x Ratio) Quotient(way int, y Ratio) (integer.Int, Ratio, api.Errno) {
	switch {
	case way < Floor || way > Round:
		return integer.Int{}, Ratio{}, api.ErrArg
	case y.Sign() == 0:
		return integer.Int{}, Ratio{}, api.ErrZero
	}
	n, d := x.top.Mul(y.Denominator()), x.Denominator().Mul(y.top)
	if d.Sign() < 0 {
		n, d = n.Neg(), d.Neg()
	}
	q, rest := floorOf(n, d)
	up := roundings()[way]
	if rest.Sign() > 0 && up(q, rest.Add(rest).Cmp(d)) {
		q = q.Add(integer.New(1))
	}
	return q, x.Sub(y.Mul(Of(q))), api.OK
}

// floorOf returns the greatest integer that is not above n/d, for d above 0, and n less d times this.
func floorOf(n, d integer.Int) (quotient, remainder integer.Int) {
	q, r, _ := n.Divide(d)
	if r.Sign() < 0 {
		return q.Sub(integer.New(1)), r.Add(d)
	}
	return q, r
}
