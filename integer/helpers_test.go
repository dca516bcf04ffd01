package integer_test

import (
	"math/big"
	"math/rand"
	"testing"

	"commonform/api"
	"commonform/integer"
)

// bigOf returns the same integer of the library, made from the limbs.
func bigOf(x integer.Int) *big.Int {
	negative, limbs := x.Limbs()
	n := new(big.Int)
	for i := len(limbs) - 1; i >= 0; i-- {
		n.Lsh(n, 32)
		n.Or(n, new(big.Int).SetUint64(uint64(limbs[i])))
	}
	if negative {
		n.Neg(n)
	}
	return n
}

// intOf returns the integer of one of the library.
func intOf(n *big.Int) integer.Int {
	var limbs []uint32
	rest, mask := new(big.Int).Abs(n), big.NewInt(1<<32-1)
	for rest.Sign() > 0 {
		limbs = append(limbs, uint32(new(big.Int).And(rest, mask).Uint64()))
		rest.Rsh(rest, 32)
	}
	return integer.Make(n.Sign() < 0, limbs)
}

// power2 returns 2^n.
func power2(n int) integer.Int { return intOf(new(big.Int).Lsh(big.NewInt(1), uint(n))) }

// random returns an integer of up to so many limbs; limbs of zeros and of ones occur often.
func random(r *rand.Rand, size int) integer.Int {
	limbs := make([]uint32, r.Intn(size+1))
	for i := range limbs {
		switch r.Intn(6) {
		case 0:
			limbs[i] = 0
		case 1:
			limbs[i] = 1<<32 - 1
		case 2:
			limbs[i] = 1 << r.Intn(32)
		default:
			limbs[i] = r.Uint32()
		}
	}
	return integer.Make(r.Intn(2) == 0, limbs)
}

// samples returns integers at the edges of words, and random ones.
func samples() []integer.Int {
	var l []integer.Int
	for _, bits := range []int{0, 1, 2, 31, 32, 33, 63, 64, 65, 96, 200} {
		p := power2(bits)
		for _, d := range []int64{-1, 0, 1} {
			x := p.Add(integer.New(d))
			l = append(l, x, x.Neg())
		}
	}
	r := rand.New(rand.NewSource(1))
	for range 40 {
		l = append(l, random(r, 8))
	}
	return l
}

func same(t *testing.T, what string, got integer.Int, want *big.Int) {
	t.Helper()
	if bigOf(got).Cmp(want) != 0 {
		t.Errorf("%s = %v; want %v", what, bigOf(got), want)
	}
	wellFormed(t, what, got)
}

// wellFormed checks what every result has to keep: no zeros at the top, no sign of 0.
func wellFormed(t *testing.T, what string, x integer.Int) {
	t.Helper()
	negative, limbs := x.Limbs()
	if len(limbs) == 0 && negative || len(limbs) > 0 && limbs[len(limbs)-1] == 0 {
		t.Errorf("%s: limbs %v, below 0: %v", what, limbs, negative)
	}
}

// zeroWith checks that a call ended with an error and the zero value.
func zeroWith(t *testing.T, what string, x integer.Int, got, want api.Errno) {
	t.Helper()
	if got != want || x.Sign() != 0 {
		t.Errorf("%s = %v, %v; want 0, %v", what, bigOf(x), got, want)
	}
}
