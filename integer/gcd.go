package integer

import "math/bits"

// steps are some steps of Euclid's algorithm at once: they lead from a and b to first[0] a - first[1] b and second[1] b - second[0] a, or, if odd is set, to these with the opposite signs.
type steps struct {
	first, second [2]uint64
	odd           bool
}

// divisor returns the greatest common divisor of a and b, whose memory it uses.
// It follows Lehmer: as long as the top words of both tell the quotients, both numbers are replaced for many steps at once.
func divisor(a, b []uint32) []uint32 {
	if compare(a, b) < 0 {
		a, b = b, a
	}
	for len(b) > 2 {
		s := look(a, b)
		if s.first[1] == 0 {
			_, rest := divide(a, b)
			a, b = b, rest
			continue
		}
		a, b = s.take(a, b)
	}
	if len(b) > 0 && len(a) > 2 {
		_, rest := divide(a, b)
		a, b = b, rest
	}
	if len(b) == 0 {
		return a
	}
	return split(divisorOfWords(join(a), join(b)))
}

func divisorOfWords(a, b uint64) uint64 {
	for b > 0 {
		a, b = b, a%b
	}
	return a
}

// look finds the steps that the top words of a and b tell, by Collins' condition: up to there the quotients are those of a and b.
// The products of a remainder and its factors stay below 2^64, and so all factors that are returned stay below 2^32.
func look(a, b []uint32) steps {
	shift := bits.LeadingZeros32(a[len(a)-1])
	x, y := window(a, len(a), shift), window(b, len(a), shift)
	u0, u1, u2 := uint64(0), uint64(1), uint64(0)
	v0, v1, v2 := uint64(0), uint64(0), uint64(1)
	odd := true
	for y >= v2 && x-y >= v1+v2 {
		q, r := x/y, x%y
		x, y = y, r
		u0, u1, u2 = u1, u2, u1+q*u2
		v0, v1, v2 = v1, v2, v1+q*v2
		odd = !odd
	}
	return steps{first: [2]uint64{u0, v0}, second: [2]uint64{u1, v1}, odd: odd}
}

// window returns the 64 bits of a from the top of n shifted limbs on.
func window(a []uint32, n, shift int) uint64 {
	top := uint64(limb(a, n-1))<<32 | uint64(limb(a, n-2))
	return top<<shift | uint64(limb(a, n-3))>>(32-shift)
}

// take makes the steps in the memory of a and b.
func (s steps) take(a, b []uint32) ([]uint32, []uint32) {
	first := mixer{plus: s.first[0], minus: s.first[1]}
	second := mixer{plus: s.second[1], minus: s.second[0]}
	for i, x := range a {
		y := limb(b, i)
		c, d := uint32(0), uint32(0)
		if s.odd {
			c = first.turned(x, y)
			d = second.turned(y, x)
		} else {
			c = first.next(x, y)
			d = second.next(y, x)
		}
		a[i] = c
		if i < len(b) {
			b[i] = d
		}
	}
	return trim(a), trim(b)
}

// mixer calculates the difference of two products, limb by limb, if it is not below 0.
type mixer struct {
	plus, minus uint64
	up, down    uint64 // what is carried
	borrow      uint64
}

// next returns the limb of plus x - minus y.
func (m *mixer) next(x, y uint32) uint32 { return m.limb(m.plus*uint64(x), m.minus*uint64(y)) }

// turned returns the limb of minus y - plus x.
func (m *mixer) turned(x, y uint32) uint32 { return m.limb(m.minus*uint64(y), m.plus*uint64(x)) }

func (m *mixer) limb(high, low uint64) uint32 {
	high += m.up
	low += m.down
	m.up, m.down = high>>32, low>>32
	t := uint64(uint32(high)) - uint64(uint32(low)) - m.borrow
	m.borrow = t >> 63
	return uint32(t)
}
