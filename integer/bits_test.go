package integer_test

import (
	"math"
	"math/big"
	"math/rand"
	"strings"
	"testing"

	"commonform/api"
	"commonform/integer"
)

// P2.1: shifts, lengths, counts and single bits, against the library.
func TestShift(t *testing.T) {
	for _, x := range samples() {
		a := bigOf(x)
		for _, n := range []int{0, 1, 5, 31, 32, 33, 64, 100, 300} {
			up, e := x.Shift(n)
			same(t, "Shift up", up, new(big.Int).Lsh(a, uint(n)))
			down, f := x.Shift(-n)
			same(t, "Shift down", down, new(big.Int).Rsh(a, uint(n)))
			back, g := up.Shift(-n)
			same(t, "Shift up and down", back, a)
			if e != api.OK || f != api.OK || g != api.OK {
				t.Errorf("Shift by %d: %v, %v, %v", n, e, f, g)
			}
		}
		for _, n := range []int{math.MinInt, math.MinInt + 1, -1 << 40} {
			down, e := x.Shift(n)
			same(t, "Shift far down", down, big.NewInt(int64(min(0, a.Sign()))))
			if e != api.OK {
				t.Error(e)
			}
		}
	}
	same(t, "the example", must(integer.New(-5).Shift(-1)), big.NewInt(-3))
}

func must(x integer.Int, e api.Errno) integer.Int {
	if e != api.OK {
		panic(e)
	}
	return x
}

func TestShiftLimit(t *testing.T) {
	for _, c := range []struct {
		x    integer.Int
		n    int
		want api.Errno
	}{
		{integer.New(1), api.MaxBits - 1, api.OK}, {integer.New(1), api.MaxBits, api.ErrLarge}, {integer.New(-1), api.MaxBits, api.OK}, {integer.New(-1), api.MaxBits + 1, api.ErrLarge},
		{integer.New(0), math.MaxInt, api.OK}, {integer.New(1), math.MaxInt, api.ErrLarge}, {integer.New(-1), math.MaxInt, api.ErrLarge}, {power2(api.MaxBits + 9), 0, api.OK}, {power2(api.MaxBits + 9), 1, api.ErrLarge}, {power2(api.MaxBits + 9), -1, api.OK},
	} {
		x, e := c.x.Shift(c.n)
		if e != c.want || e != api.OK && x.Sign() != 0 {
			t.Errorf("Shift by %d of a number of length %d: %v", c.n, c.x.Length(), e)
		}
	}
}

// P2.5: Length and Count are those of the bits that differ from the sign.
func TestLength(t *testing.T) {
	for _, c := range []struct {
		n             int64
		length, count int
	}{{0, 0, 0}, {7, 3, 3}, {-8, 3, 3}, {8, 4, 1}, {-1, 0, 0}, {-9, 4, 1}, {math.MaxInt64, 63, 63}, {math.MinInt64, 63, 63}, {-1 << 32, 32, 32}} {
		x := integer.New(c.n)
		if x.Length() != c.length || x.Count() != c.count {
			t.Errorf("%d: Length %d, Count %d", c.n, x.Length(), x.Count())
		}
	}
	for _, x := range samples() {
		other := integer.New(-1).Sub(x)
		count := 0
		for i := range 400 {
			if x.Bit(i) != (x.Sign() < 0) {
				count++
			}
		}
		if x.Length() != other.Length() || x.Count() != other.Count() || x.Count() != count {
			t.Errorf("%v: Length %d and %d, Count %d, %d and %d", bigOf(x), x.Length(), other.Length(), x.Count(), other.Count(), count)
		}
		n := x.Length()
		bound := power2(n)
		if bound.Neg().Cmp(x) > 0 || x.Cmp(bound) >= 0 {
			t.Errorf("%v is not below 2^%d", bigOf(x), n)
		}
		if half := power2(max(n-1, 0)); n > 0 && half.Neg().Cmp(x) <= 0 && x.Cmp(half) < 0 {
			t.Errorf("%v is below 2^%d", bigOf(x), n-1)
		}
	}
}

func TestBit(t *testing.T) {
	for _, x := range samples() {
		a := bigOf(x)
		for i := range 300 {
			if x.Bit(i) != (a.Bit(i) == 1) {
				t.Errorf("bit %d of %v = %v", i, a, x.Bit(i))
			}
		}
		if x.Bit(-1) || x.Bit(math.MinInt) || x.Bit(math.MaxInt) != (x.Sign() < 0) {
			t.Errorf("bits of %v beyond the ends", a)
		}
	}
}

// P2.5: Boole is bit by bit, and all sixteen tables are right.
func TestBoole(t *testing.T) {
	r := rand.New(rand.NewSource(6))
	for range 60 {
		x, y := random(r, 4), random(r, 4)
		for op := range 16 {
			z, e := x.Boole(op, y)
			wellFormed(t, "Boole", z)
			if e != api.OK {
				t.Errorf("Boole %d: %v", op, e)
			}
			for i := range 200 {
				place := 0
				if x.Bit(i) {
					place += 2
				}
				if y.Bit(i) {
					place++
				}
				if z.Bit(i) != (op>>place&1 == 1) {
					t.Fatalf("bit %d of Boole %d of %v and %v", i, op, bigOf(x), bigOf(y))
				}
			}
		}
		sum := must(x.Boole(6, y)).Add(must(must(x.Boole(8, y)).Shift(1)))
		if sum.Cmp(x.Add(y)) != 0 {
			t.Errorf("the sum of %v and %v by bits is %v", bigOf(x), bigOf(y), bigOf(sum))
		}
	}
	for _, c := range []struct {
		op      int
		x, y, z int64
	}{{8, -4, 7, 4}, {14, -4, 7, -1}, {3, -4, 0, 3}, {6, -4, 7, -5}, {1, 0, 0, -1}, {15, 0, 0, -1}, {0, 5, 6, 0}} {
		same(t, "Boole", must(integer.New(c.x).Boole(c.op, integer.New(c.y))), big.NewInt(c.z))
	}
	for _, op := range []int{-1, 16, math.MinInt, math.MaxInt} {
		z, e := integer.New(1).Boole(op, integer.New(1))
		zeroWith(t, "Boole", z, e, api.ErrArg)
	}
}

// P2.5: fields.
func TestFields(t *testing.T) {
	r := rand.New(rand.NewSource(7))
	for range 400 {
		x, part := random(r, 5), random(r, 3)
		size, position := r.Intn(100), r.Intn(200)
		field := must(x.Field(size, position))
		mask := new(big.Int).Sub(new(big.Int).Lsh(big.NewInt(1), uint(size)), big.NewInt(1))
		same(t, "Field", field, new(big.Int).And(new(big.Int).Rsh(bigOf(x), uint(position)), mask))
		y := must(x.Deposit(part, size, position))
		wellFormed(t, "Deposit", y)
		for i := range 400 {
			want := x.Bit(i)
			if i >= position && i < position+size {
				want = part.Bit(i - position)
			}
			if y.Bit(i) != want {
				t.Fatalf("bit %d of Deposit of %v in %v, %d at %d", i, bigOf(part), bigOf(x), size, position)
			}
		}
		if back := must(y.Field(size, position)); back.Cmp(must(part.Field(size, 0))) != 0 {
			t.Errorf("Field of Deposit of %v: %v", bigOf(part), bigOf(back))
		}
		same(t, "Deposit of Field", must(x.Deposit(field, size, position)), bigOf(x))
	}
	same(t, "the field of 90", must(integer.New(90).Field(3, 2)), big.NewInt(6))
	same(t, "the deposit in 90", must(integer.New(90).Deposit(integer.New(1), 3, 2)), big.NewInt(70))
}

func TestFieldLimits(t *testing.T) {
	most := api.MaxBits
	if x := must(integer.New(-1).Field(most, most)); x.Length() != most || x.Count() != most {
		t.Errorf("the greatest field of -1 has the length %d", x.Length())
	}
	if x := must(integer.New(0).Deposit(integer.New(-1), most, most)); x.Length() != 2*most || x.Count() != most {
		t.Errorf("the greatest deposit has the length %d", x.Length())
	}
	same(t, "Field of 0 bits", must(integer.New(-1).Field(0, 5)), big.NewInt(0))
	for _, c := range [][2]int{{-1, 0}, {0, -1}, {most + 1, 0}, {0, most + 1}, {math.MinInt, math.MaxInt}} {
		x, e := integer.New(1).Field(c[0], c[1])
		zeroWith(t, "Field", x, e, api.ErrArg)
		x, e = integer.New(1).Deposit(integer.New(1), c[0], c[1])
		zeroWith(t, "Deposit", x, e, api.ErrArg)
	}
}

// P2.6: digits, against the library.
func TestDigits(t *testing.T) {
	r := rand.New(rand.NewSource(8))
	l := append(samples(), random(r, 200), random(r, 300))
	for _, x := range l {
		for radix := 2; radix <= 36; radix++ {
			s, e := x.Text(radix)
			if want := strings.ToUpper(bigOf(x).Text(radix)); s != want || e != api.OK {
				t.Fatalf("Text(%d) = %s, %v; want %s", radix, s, e, want)
			}
			for _, text := range []string{s, strings.ToLower(s), withZeros(s)} {
				back, e := integer.Parse(text, radix)
				same(t, "Parse of "+text, back, bigOf(x))
				if e != api.OK {
					t.Errorf("Parse(%q, %d): %v", text, radix, e)
				}
			}
		}
	}
	if s, _ := integer.New(255).Text(16); s != "FF" {
		t.Errorf("255 = %s", s)
	}
	same(t, "-0zZ", must(integer.Parse("-0zZ", 36)), big.NewInt(-1295))
	same(t, "-000", must(integer.Parse("-000", 10)), big.NewInt(0))
}

// withZeros returns the text with a sign and zeros in front.
func withZeros(s string) string {
	if digits, negative := strings.CutPrefix(s, "-"); negative {
		return "-000" + digits
	}
	return "+0" + s
}

func TestDigitErrors(t *testing.T) {
	long := strings.Repeat("9", api.MaxDigits)
	if x, e := integer.Parse(long, 10); e != api.OK || x.Length() != 66439 {
		t.Errorf("the longest text: %d, %v", x.Length(), e)
	}
	for _, c := range []struct {
		s     string
		radix int
		want  api.Errno
	}{
		{long + "9", 10, api.ErrLarge}, {long + "?", 10, api.ErrLarge}, {long + "9", 1, api.ErrArg}, {"?", 37, api.ErrArg}, {"1", 0, api.ErrArg}, {"1", -10, api.ErrArg}, {"1", math.MinInt, api.ErrArg},
		{"", 10, api.ErrForm}, {"+", 10, api.ErrForm}, {"-", 10, api.ErrForm}, {"+-1", 10, api.ErrForm}, {"1-", 10, api.ErrForm}, {" 1", 10, api.ErrForm}, {"1 ", 10, api.ErrForm}, {"1_0", 10, api.ErrForm},
		{"12", 2, api.ErrForm}, {"A", 10, api.ErrForm}, {"g", 16, api.ErrForm}, {"1.", 10, api.ErrForm}, {"é", 36, api.ErrForm}, {"1/2", 10, api.ErrForm}, {"\x00", 36, api.ErrForm}, {"@", 36, api.ErrForm}, {"[", 36, api.ErrForm}, {"`", 36, api.ErrForm}, {"{", 36, api.ErrForm}, {":", 36, api.ErrForm},
	} {
		x, e := integer.Parse(c.s, c.radix)
		zeroWith(t, "Parse", x, e, c.want)
	}
	for _, radix := range []int{-2, 0, 1, 37, math.MaxInt} {
		if s, e := integer.New(5).Text(radix); s != "" || e != api.ErrArg {
			t.Errorf("Text(%d) = %q, %v", radix, s, e)
		}
	}
}

// P2.6: the text in the radix 16 is that of the limbs.
func TestHexadecimal(t *testing.T) {
	x := integer.Make(true, []uint32{0x89abcdef, 0x1234567, 0xf})
	if s, _ := x.Text(16); s != "-F0123456789ABCDEF" {
		t.Errorf("Text(16) = %s", s)
	}
}
