// Package integer has integers of any size: arithmetic, the bits of two's complement with an infinite sign, fields of bits, and digits in any radix.
package integer

// Int is an integer of any size. The zero value is 0. Values never change.
type Int struct {
	negative bool
	limbs    []uint32 // the absolute value to the base 2^32, the least significant limb first, without zeros at the top
}

// wrap returns the number with a sign and an absolute value, and takes the limbs over.
func wrap(negative bool, limbs []uint32) Int {
	limbs = trim(limbs)
	return Int{negative: negative && len(limbs) > 0, limbs: limbs}
}

// New returns n.
func New(n int64) Int {
	size := uint64(n)
	if n < 0 {
		size = -size
	}
	return wrap(n < 0, split(size))
}

// Make returns the integer with a sign and the limbs of its absolute value, which may have zeros at the top.
func Make(negative bool, limbs []uint32) Int { return wrap(negative, clone(limbs)) }

// Limbs returns the sign and the limbs of the absolute value.
func (x Int) Limbs() (negative bool, limbs []uint32) { return x.negative, clone(x.limbs) }

// Int64 returns x and true, if x fits.
func (x Int) Int64() (int64, bool) {
	if len(x.limbs) > 2 {
		return 0, false
	}
	size := join(x.limbs)
	switch {
	case x.negative && size <= 1<<63:
		return int64(-size), true
	case !x.negative && size < 1<<63:
		return int64(size), true
	}
	return 0, false
}

// Sign returns -1, 0 or 1.
func (x Int) Sign() int {
	switch {
	case len(x.limbs) == 0:
		return 0
	case x.negative:
		return -1
	}
	return 1
}

// Cmp returns the sign of x - y.
func (x Int) Cmp(y Int) int {
	switch {
	case x.negative && !y.negative:
		return -1
	case !x.negative && y.negative:
		return 1
	case x.negative:
		return compare(y.limbs, x.limbs)
	}
	return compare(x.limbs, y.limbs)
}

// Odd reports whether x is odd.
func (x Int) Odd() bool { return len(x.limbs) > 0 && x.limbs[0]&1 == 1 }
