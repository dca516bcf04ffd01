// Package float has floating-point numbers as IEEE 754 has them, by their bits: exact values, correctly rounded arithmetic, and decimal texts.
package float

import (
	"iter"
	"math/bits"

	"commonform/api"
	"commonform/integer"
	"commonform/rational"
)

// Format is a format of floats.
type Format int

// The formats.
const (
	Single Format = iota
	Double
)

// Of each format: the bits of a float, the bits of a significand (the first one of them is not written), the least and the greatest exponent of the last bit.
var (
	widths         = [2]int{32, 64}
	precisions     = [2]int{24, 53}
	leastExponents = [2]int{-149, -1074}
	mostExponents  = [2]int{104, 971}
)

func (f Format) right() bool { return f == Single || f == Double }

func (f Format) signBit() uint64 { return 1 << (widths[f] - 1) }

// infinity returns the bits of the infinity above 0: as a number, 1 more than those of the greatest float.
func (f Format) infinity() uint64 { return f.signBit() - 1<<(precisions[f]-1) }

// check returns ErrArg if the format is none, or one of the floats is none of this format.
func check(f Format, floats ...uint64) api.Errno {
	if !f.right() {
		return api.ErrArg
	}
	for _, x := range floats {
		if x&^f.signBit() >= f.infinity() { // also bits above the sign, which a Single may have
			return api.ErrArg
		}
	}
	return api.OK
}

func negative(f Format, x uint64) bool { return x&f.signBit() != 0 }

// zero reports whether x is 0 or -0.
func zero(f Format, x uint64) bool { return x&^f.signBit() == 0 }

// signed returns 0 with the sign bit, if this is wanted.
func signed(f Format, minus bool) uint64 {
	if minus {
		return f.signBit()
	}
	return 0
}

// parts returns the significand and the exponent of a float.
func parts(f Format, x uint64) (significand uint64, exponent int) {
	hidden := uint64(1) << (precisions[f] - 1)
	field := int(x &^ f.signBit() >> (precisions[f] - 1))
	if field == 0 {
		return x & (hidden - 1), leastExponents[f]
	}
	return x&(hidden-1) | hidden, leastExponents[f] + field - 1
}

// whole returns a word as an integer.
func whole(n uint64) integer.Int {
	return integer.Make(false, []uint32{uint32(n), uint32(n >> 32)})
}

// raised returns n 2^k, for any k that is not below 0. (Shift of layer integer has a limit.)
func raised(n integer.Int, k int) integer.Int {
	minus, limbs := n.Limbs()
	limbs = append(make([]uint32, k/32), limbs...)
	return integer.Make(minus, limbs).Mul(integer.New(1 << (k % 32)))
}

// scaled returns the fraction n 2^k/d as numerator and denominator.
func scaled(n, d integer.Int, k int) (top, bottom integer.Int) {
	if k < 0 {
		return n, raised(d, -k)
	}
	return raised(n, k), d
}

// Value returns the exact value of a float.
func Value(f Format, x uint64) (rational.Ratio, api.Errno) {
	if e := check(f, x); e != api.OK {
		return rational.Ratio{}, e
	}
	m, exponent := parts(f, x)
	if m == 0 {
		return rational.Ratio{}, api.OK
	}
	low := bits.TrailingZeros64(m)
	top, bottom := scaled(whole(m>>low), integer.New(1), exponent+low)
	if negative(f, x) {
		top = top.Neg()
	}
	return rational.New(top, bottom)
}

// Decode returns the significand, the exponent and the sign of a float.
func Decode(f Format, x uint64) (significand integer.Int, exponent, sign int, e api.Errno) {
	if e := check(f, x); e != api.OK {
		return integer.Int{}, 0, 0, e
	}
	m, exponent := parts(f, x)
	if negative(f, x) {
		return whole(m), exponent, -1, api.OK
	}
	return whole(m), exponent, 1, api.OK
}

// Precision returns the number of bits of the significand of a float.
func Precision(f Format, x uint64) (int, api.Errno) {
	if e := check(f, x); e != api.OK {
		return 0, e
	}
	m, _ := parts(f, x)
	return bits.Len64(m), api.OK
}

// place returns the place of a float in the order of their values: that of 0 and -0 is 0.
func place(f Format, x uint64) int64 {
	if negative(f, x) {
		return -int64(x &^ f.signBit())
	}
	return int64(x)
}

// at returns the float with a place; 0, and not -0, for 0.
func at(f Format, place int64) uint64 {
	if place < 0 {
		return uint64(-place) | f.signBit()
	}
	return uint64(place)
}

// neighbours yields the floats above x, or below it, from the nearest one on.
func neighbours(f Format, x uint64, up bool) iter.Seq[uint64] {
	return func(yield func(uint64) bool) {
		last := int64(f.infinity()) - 1
		for p := place(f, x); up && p < last || !up && p > -last; {
			if up {
				p++
			} else {
				p--
			}
			if !yield(at(f, p)) {
				return
			}
		}
	}
}

// Next returns the next greater, or the next less float.
func Next(f Format, x uint64, up bool) (uint64, api.Errno) {
	if e := check(f, x); e != api.OK {
		return 0, e
	}
	for next := range neighbours(f, x, up) {
		return next, api.OK
	}
	return 0, api.ErrOver
}
