package float

import (
	"math/bits"
	"strconv"
	"strings"

	"commonform/api"
	"commonform/integer"
)

// span has what is read as one float, above 0, in units of 10^(point-18): the float lies from middle on to below the next unit, at middle itself if exact is set; the units from low to high, both included, are read as it.
type span struct {
	low, middle, high int64
	exact             bool
	point             int
}

// measure returns the span of a float above 0. (17 digits are always enough: so a unit more than these is left for rounding.)
func measure(f Format, x uint64) span {
	m, exponent := parts(f, x)
	// the logarithm of 2 to the base 10 is a little less than 0.30103
	point := floorQuotient((bits.Len64(m)+exponent-1)*30103, 100000) + 1
	for {
		s := spanAt(f, m, exponent, point)
		switch {
		case s.middle < 0 || s.middle >= 1e18:
			point++
		case s.middle < 1e17:
			point--
		default:
			return s
		}
	}
}

func floorQuotient(n, d int) int {
	q := n / d
	if n%d < 0 {
		q--
	}
	return q
}

// spanAt returns the span with a point; its middle is below 0 if it has too many digits.
func spanAt(f Format, m uint64, exponent, point int) span {
	n, d := scaled(integer.New(1), integer.New(4), exponent)
	if point > 18 {
		d = d.Mul(powerOfTen(point - 18))
	} else {
		n = n.Mul(powerOfTen(18 - point))
	}
	// the bounds lie half of the way to both neighbours, of which the lower one is nearer below a power of 2
	below := uint64(2)
	if m == 1<<(precisions[f]-1) && exponent > leastExponents[f] {
		below = 1
	}
	middle, exact := countUnits(n, d, 4*m)
	low, onLow := countUnits(n, d, 4*m-below)
	high, onHigh := countUnits(n, d, 4*m+2)
	// a bound itself is read as the float with the even significand
	even := m%2 == 0
	if !onLow || !even {
		low++
	}
	if onHigh && !even {
		high--
	}
	return span{low: low, middle: middle, high: high, exact: exact, point: point}
}

// countUnits returns n k/d, rounded down, and whether it is an integer; -1 if it is too great.
func countUnits(n, d integer.Int, k uint64) (int64, bool) {
	q, rest, _ := n.Mul(whole(k)).Divide(d)
	count, ok := q.Int64()
	if !ok {
		return -1, false
	}
	return count, rest.Sign() == 0
}

// powerOfTen returns 10^n, for any n that is not below 0. (Power of layer integer has a limit.)
func powerOfTen(n int) integer.Int {
	power := integer.New(1)
	for i := bits.Len(uint(n)) - 1; i >= 0; i-- {
		power = power.Mul(power)
		if n>>i&1 == 1 {
			power = power.Mul(integer.New(10))
		}
	}
	return power
}

// nearest returns the multiple of a unit within the span that is nearest to the float, or 0 if there is none; of two equally near ones the even multiple. (The unit is even.)
func (s span) nearest(unit int64) int64 {
	down := s.middle / unit * unit
	up := down + unit
	rest := s.middle - down
	upper := rest > unit/2 || rest == unit/2 && (!s.exact || down/unit%2 == 1)
	switch {
	case up <= s.high && (upper || down < s.low):
		return up
	case down >= s.low:
		return down
	}
	return 0
}

// Shortest returns the shortest decimal digits from which a float is read back, and the place of the point.
func Shortest(f Format, x uint64) (digits string, point int, e api.Errno) {
	if e := check(f, x); e != api.OK {
		return "", 0, e
	}
	if zero(f, x) {
		return "0", 0, api.OK
	}
	s := measure(f, x)
	withUnit := func(unit int64) bool {
		number := s.nearest(unit)
		if number == 0 {
			return false
		}
		text := strconv.FormatInt(number, 10)
		digits, point = strings.TrimRight(text, "0"), s.point+len(text)-18
		return true
	}
searching:
	for unit := int64(1e17); unit > 1; unit /= 10 {
		if withUnit(unit) {
			break searching
		}
	}
	return digits, point, api.OK
}
