package float_test

import (
	"math"
	"math/rand"
	"strconv"
	"strings"
	"testing"

	"commonform/api"
	"commonform/float"
	"commonform/integer"
	"commonform/rational"
)

func width(f float.Format) int { return [2]int{32, 64}[f] }

// P4.1, P4.5: the shortest digits, against the library, and by their definition.
func TestShortest(t *testing.T) {
	for _, f := range formats {
		l := samples(f, 21, 3000)
		for x := range uint64(500) { // the least floats: few digits, of which many are read as the same float
			l = append(l, x)
		}
		for _, x := range l {
			digits, point, e := float.Shortest(f, x)
			if x&^sign(f) == 0 {
				if digits != "0" || point != 0 || e != api.OK {
					t.Errorf("Shortest of 0: %s, %d, %v", digits, point, e)
				}
				continue
			}
			want := strconv.FormatFloat(math.Abs(number(f, x)), 'e', -1, width(f))
			mantissa, exponent, _ := strings.Cut(want, "e")
			n, _ := strconv.Atoi(exponent)
			if digits != strings.Replace(mantissa, ".", "", 1) || point != n+1 || e != api.OK {
				t.Errorf("Shortest of %x: %s, %d, %v; want %s", x, digits, point, e, want)
			}
			checkShortest(t, f, x, digits, point)
		}
	}
}

// checkShortest checks that digits are read as the float, no fewer ones are, and no other ones with as many are nearer.
func checkShortest(t *testing.T, f float.Format, x uint64, digits string, point int) {
	t.Helper()
	x &^= sign(f)
	read := func(n int64, power int) uint64 {
		y, _ := float.Read(f, strconv.FormatInt(n, 10)+"e"+strconv.Itoa(power))
		return y
	}
	n, _ := strconv.ParseInt(digits, 10, 64)
	power := point - len(digits)
	if read(n, power) != x || digits[0] == '0' || digits[len(digits)-1] == '0' {
		t.Errorf("%s with the point %d is not read as %x", digits, point, x)
	}
	if len(digits) > 1 && (read(n/10, power+1) == x || read(n/10+1, power+1) == x) {
		t.Errorf("fewer digits than %s with the point %d are read as %x", digits, point, x)
	}
	value, _ := float.Value(f, x)
	distance := func(n int64) rational.Ratio { return value.Sub(tenTo(power).Mul(whole(n))).Abs() }
	for _, other := range []int64{n - 1, n + 1} {
		c := distance(n).Cmp(distance(other))
		if len(strconv.FormatInt(other, 10)) == len(digits) && read(other, power) == x && (c > 0 || c == 0 && n%2 != 0) {
			t.Errorf("%d is nearer to %x than %s", other, x, digits)
		}
	}
}

func tenTo(n int) rational.Ratio {
	x, _ := ratio("10").Power(n)
	return x
}

// P4.1: where two texts are equally near, the last digit is even; where the bound itself is read as the float, it counts.
func TestShortestTies(t *testing.T) {
	r := rand.New(rand.NewSource(22))
	for range 2000 {
		// floats that are multiples of large powers of two, and those around powers of two
		x := bitsOf(float.Double, math.Ldexp(float64(1+r.Intn(1<<20)), 53+r.Intn(30)))
		digits, point, _ := float.Shortest(float.Double, x)
		checkShortest(t, float.Double, x, digits, point)
		x = bitsOf(float.Single, math.Ldexp(1, r.Intn(277)-149)) + uint64(r.Intn(3)) - 1
		if x > 0 && finite(float.Single, x) {
			digits, point, _ = float.Shortest(float.Single, x)
			checkShortest(t, float.Single, x, digits, point)
		}
	}
	for _, c := range []struct {
		f      float.Format
		x      uint64
		digits string
		point  int
	}{{float.Single, 0x3dcccccd, "1", 0}, {float.Single, 1, "1", -44}, {float.Double, 1, "5", -323}, {float.Single, 0x7f7fffff, "34028235", 39}, {float.Double, 0x7fefffffffffffff, "17976931348623157", 309}, {float.Single, 0x4b800000, "16777216", 8}, {float.Double, math.Float64bits(9007199254740993), "9007199254740992", 16}, {float.Double, math.Float64bits(1 << 62), "4611686018427388", 19}} {
		digits, point, e := float.Shortest(c.f, c.x)
		if digits != c.digits || point != c.point || e != api.OK {
			t.Errorf("Shortest of %x = %s, %d, %v; want %s, %d", c.x, digits, point, e, c.digits, c.point)
		}
	}
}

// P4.6: places.
func TestPlaces(t *testing.T) {
	for _, c := range []struct {
		x    string
		n    int
		want string
	}{
		{"1/8", 2, "0.12"}, {"3/8", 2, "0.38"}, {"-1/1000", 2, "0.00"}, {"5/2", 0, "2."}, {"7/2", 0, "4."}, {"-5/2", 0, "-2."}, {"1/2", 0, "0."}, {"-1/2", 0, "0."}, {"-3/4", 0, "-1."}, {"-1/2", 1, "-0.5"}, {"999/1000", 2, "1.00"}, {"0", 3, "0.000"}, {"12345/10", 2, "1234.50"}, {"1/20", 1, "0.0"}, {"3/20", 1, "0.2"}, {"1000", 0, "1000."},
	} {
		if s, e := float.Places(ratio(c.x), c.n); s != c.want || e != api.OK {
			t.Errorf("Places of %s and %d = %q, %v", c.x, c.n, s, e)
		}
	}
	for _, n := range []int{-1, 401, math.MinInt, math.MaxInt} {
		if s, e := float.Places(ratio("1"), n); s != "" || e != api.ErrArg {
			t.Errorf("%d places: %q, %v", n, s, e)
		}
	}
	r := rand.New(rand.NewSource(23))
	for range 500 {
		x, _ := rational.New(integer.New(r.Int63n(1<<40)-1<<39), integer.New(1+r.Int63n(1<<r.Intn(50))))
		for _, n := range []int{0, 1, r.Intn(30), 400} {
			checkPlaces(t, x, n)
		}
	}
}

func checkPlaces(t *testing.T, x rational.Ratio, n int) {
	t.Helper()
	s, e := float.Places(x, n)
	before, behind, point := strings.Cut(s, ".")
	units, f := rational.Parse(before+behind, 10)
	off := units.Sub(x.Mul(tenTo(n))).Abs()
	half := off.Add(off).Cmp(ratio("1"))
	if e != api.OK || f != api.OK || !point || len(behind) != n || !units.Whole() || half > 0 || half == 0 && units.Numerator().Odd() || strings.HasPrefix(strings.TrimPrefix(before, "-"), "0") && len(before) > 1 && before != "-0" || strings.HasPrefix(s, "-") != (units.Sign() < 0) {
		t.Errorf("Places of %s and %d = %q, %v", text(x), n, s, e)
	}
}

// P4.1, P4.5: reading, against the library.
func TestRead(t *testing.T) {
	for s, want := range map[string]uint64{
		"-.5e1": 0xc0a00000, "16777217": 0x4b800000, "16777217.0000001": 0x4b800001, "16777219": 0x4b800002, "-0": 1 << 31, "+0": 0, "-0.000e-99": 1 << 31, "0e9999999999": 0, "1.e2": 0x42c80000, "1.E+2": 0x42c80000, "100e-00000000000000000000001": 0x41200000, "00001": 0x3f800000,
		"1e-46": 0, "-1e-46": 1 << 31, "1e-9999999999999999999999": 0, "-1e-9999999999999999999999": 1 << 31, "0." + strings.Repeat("0", 9000) + "1e9001": 0x3f800000, "1" + strings.Repeat("0", 9000) + "e-9000": 0x3f800000, "0.1": 0x3dcccccd,
	} {
		if x, e := float.Read(float.Single, s); x != want || e != api.OK {
			t.Errorf("Read(%.40q) = %x, %v; want %x", s, x, e, want)
		}
	}
	r := rand.New(rand.NewSource(24))
	for range 3000 {
		s := strconv.FormatInt(r.Int63n(1<<r.Intn(62)+1), 10)
		if r.Intn(2) == 0 {
			s += "." + strconv.FormatInt(r.Int63(), 10)
		}
		s += "e" + strconv.Itoa(r.Intn(700)-350)
		for _, f := range formats {
			want, _ := strconv.ParseFloat(s, width(f))
			x, e := float.Read(f, s)
			same(t, f, "Read of "+s, x, e, bitsOf(f, want))
			x, e = float.Read(f, "-"+s)
			same(t, f, "Read of -"+s, x, e, bitsOf(f, want)|sign(f))
		}
	}
}

func TestReadErrors(t *testing.T) {
	long := "1." + strings.Repeat("0", api.MaxDigits-2)
	if x, e := float.Read(float.Single, long); x != 0x3f800000 || e != api.OK {
		t.Errorf("the longest text: %x, %v", x, e)
	}
	if x, e := float.Read(float.Double, "1e-"+strings.Repeat("9", api.MaxDigits-3)); x != 0 || e != api.OK {
		t.Errorf("the greatest exponent: %x, %v", x, e)
	}
	for s, want := range map[string]api.Errno{
		"": api.ErrForm, ".": api.ErrForm, "+": api.ErrForm, "-.": api.ErrForm, "e5": api.ErrForm, ".e5": api.ErrForm, "1e": api.ErrForm, "1e+": api.ErrForm, "1d0": api.ErrForm, "1f0": api.ErrForm, "1 ": api.ErrForm, " 1": api.ErrForm, "--1": api.ErrForm, "1.2.3": api.ErrForm, "1e5.0": api.ErrForm, "1e5e5": api.ErrForm, "1e--5": api.ErrForm, "inf": api.ErrForm, "nan": api.ErrForm, "0x1": api.ErrForm, "1_0": api.ErrForm, "٣": api.ErrForm,
		"1e39": api.ErrOver, "-1e39": api.ErrOver, "1e99999999999999999999": api.ErrOver, "340282356779733661637539395458142568448": api.ErrOver, strings.Repeat("9", api.MaxDigits): api.ErrOver,
		long + "0": api.ErrLarge, strings.Repeat("?", api.MaxDigits+1): api.ErrLarge,
	} {
		if x, e := float.Read(float.Single, s); x != 0 || e != want {
			t.Errorf("Read(%.40q) = %x, %v; want %v", s, x, e, want)
		}
	}
}

// P4.1, P4.5: printing, and reading back.
func TestPrint(t *testing.T) {
	for _, c := range []struct {
		f, usual float.Format
		x        uint64
		want     string
	}{
		{0, 0, 0x3dcccccd, "0.1"}, {0, 0, 0x4b189680, "1.0e7"}, {0, 0, 0x4b18967f, "9999999.0"}, {0, 0, 1, "1.0e-45"}, {0, 0, 0, "0.0"}, {0, 0, 1 << 31, "-0.0"}, {0, 0, 0x3f800000, "1.0"}, {0, 0, 0xc2f6e979, "-123.456"}, {0, 0, 0x3a83126f, "0.001"}, {0, 0, 0x3a83126e, "9.999999e-4"}, {0, 0, 0x461c4000, "10000.0"}, {0, 0, 0xff7fffff, "-3.4028235e38"}, {0, 0, 0x3c23d70a, "0.01"},
		{0, 1, 0x3dcccccd, "0.1f0"}, {0, 1, 0x4b189680, "1.0f7"}, {0, 1, 1 << 31, "-0.0f0"}, {0, 1, 1, "1.0f-45"},
		{1, 0, 0x3fb999999999999a, "0.1d0"}, {1, 0, math.Float64bits(1e7), "1.0d7"}, {1, 0, math.Float64bits(-1.5e-300), "-1.5d-300"}, {1, 1, math.Float64bits(1e7), "1.0e7"}, {1, 1, math.Float64bits(123.25), "123.25"}, {1, 1, math.Float64bits(0.001), "0.001"}, {1, 1, math.Float64bits(math.Nextafter(0.001, 0)), "9.999999999999998e-4"}, {1, 1, math.Float64bits(math.Nextafter(1e7, 0)), "9999999.999999998"},
	} {
		if s, e := float.Print(c.f, c.x, c.usual); s != c.want || e != api.OK {
			t.Errorf("Print of %x = %q, %v; want %q", c.x, s, e, c.want)
		}
	}
	for _, f := range formats {
		for _, x := range samples(f, 25, 1000) {
			s, e := float.Print(f, x, f)
			back, g := float.Read(f, s)
			if back != x || e != api.OK || g != api.OK {
				t.Errorf("Print of %x = %s, %v, read as %x, %v", x, s, e, back, g)
			}
			before, behind, power := strings.Cut(s, "e")
			if more, _ := float.Read(f, before+"000"+map[bool]string{true: "e"}[power]+behind); more != x {
				t.Errorf("%s with more zeros is read as %x", s, more)
			}
			other, _ := float.Print(f, x, 1-f)
			letter := map[float.Format]string{float.Single: "f", float.Double: "d"}[f]
			want := strings.Replace(s, "e", letter, 1)
			if !power {
				want = s + letter + "0"
			}
			if other != want {
				t.Errorf("Print of %x = %s, and %s with the other format as usual", x, s, other)
			}
		}
	}
}
