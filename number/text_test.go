package number_test

import (
	"math"
	"strings"
	"testing"

	"commonform/api"
	"commonform/number"
)

// P5.1: tokens.
func TestRead(t *testing.T) {
	for _, c := range []struct {
		s      string
		base   int
		double bool
		kind   int
		text   string
	}{
		{"+06/4", 10, false, api.FormRatio, "3/2"}, {"4/2", 10, false, api.FormInt, "2"}, {"-0", 10, false, api.FormInt, "0"}, {"-0/5", 10, false, api.FormInt, "0"}, {"+007", 10, false, api.FormInt, "7"}, {"zZ", 36, false, api.FormInt, "1295"}, {"aA", 11, false, api.FormInt, "120"}, {"09", 10, false, api.FormInt, "9"}, {"-ff/2", 16, false, api.FormRatio, "-255/2"}, {"1", 2, true, api.FormInt, "1"},
		{"1e5", 16, false, api.FormInt, "485"}, {"1e5", 10, false, api.FormSingle, "47c35000"}, {"1e5", 14, false, api.FormSingle, "47c35000"}, {"1e5", 15, false, api.FormInt, "440"}, {"1d0", 14, false, api.FormInt, "378"}, {"1d0", 10, false, api.FormDouble, "3ff0000000000000"}, {"1.d0", 16, false, api.FormDouble, "3ff0000000000000"},
		{"10.", 2, false, api.FormInt, "10"}, {"1.", 10, true, api.FormInt, "1"}, {"-99.", 8, false, api.FormInt, "-99"}, {"+0.", 10, false, api.FormInt, "0"},
		{".5", 10, false, api.FormSingle, "3f000000"}, {".5", 10, true, api.FormDouble, "3fe0000000000000"}, {"-.5", 10, false, api.FormSingle, "bf000000"}, {"1.5", 2, false, api.FormSingle, "3fc00000"}, {"9.0", 2, false, api.FormSingle, "41100000"}, {"-0.0", 10, false, api.FormSingle, "80000000"}, {"1.e2", 10, false, api.FormSingle, "42c80000"}, {"1.0e+2", 10, false, api.FormSingle, "42c80000"}, {"+.5e1", 10, false, api.FormSingle, "40a00000"}, {"1e-46", 10, false, api.FormSingle, "00000000"}, {"0.1", 10, false, api.FormSingle, "3dcccccd"},
		{"5S-1", 10, true, api.FormSingle, "3f000000"}, {"5s-1", 10, true, api.FormSingle, "3f000000"}, {"5F-1", 10, true, api.FormSingle, "3f000000"}, {"5f-1", 10, true, api.FormSingle, "3f000000"}, {"5D-1", 10, false, api.FormDouble, "3fe0000000000000"}, {"5l-1", 10, false, api.FormDouble, "3fe0000000000000"}, {"5L-1", 10, false, api.FormDouble, "3fe0000000000000"}, {"5E-1", 10, false, api.FormSingle, "3f000000"}, {"5E-1", 10, true, api.FormDouble, "3fe0000000000000"}, {"1d300", 10, false, api.FormDouble, "7e37e43c8800759c"},
	} {
		x, e := number.Read(c.s, c.base, c.double)
		if x.Kind != c.kind || x.Text != c.text || x.Home != "" || len(x.Kids) > 0 || e != api.OK {
			t.Errorf("Read(%q, %d, %v) = %v, %v", c.s, c.base, c.double, x, e)
		}
	}
}

func TestReadErrors(t *testing.T) {
	long := strings.Repeat("1", api.MaxDigits)
	for _, c := range []struct {
		s    string
		base int
		want api.Errno
	}{
		{"", 10, api.ErrForm}, {"+", 10, api.ErrForm}, {"-", 10, api.ErrForm}, {".", 10, api.ErrForm}, {"+.", 10, api.ErrForm}, {"1+", 10, api.ErrForm}, {"+-1", 10, api.ErrForm}, {"1x0", 10, api.ErrForm}, {"1e", 10, api.ErrForm}, {"1e+", 10, api.ErrForm}, {"e1", 10, api.ErrForm}, {".e1", 10, api.ErrForm}, {"1.5.2", 10, api.ErrForm}, {"1..", 10, api.ErrForm}, {"1/-2", 10, api.ErrForm}, {"1/", 10, api.ErrForm}, {"/2", 10, api.ErrForm}, {"1/2/3", 10, api.ErrForm}, {"1/2.", 10, api.ErrForm}, {"1.0/2", 10, api.ErrForm}, {" 1", 10, api.ErrForm}, {"1 ", 10, api.ErrForm}, {"12", 2, api.ErrForm}, {"A.", 16, api.ErrForm}, {"A.5", 16, api.ErrForm}, {"1e5.", 10, api.ErrForm}, {"1.5g2", 10, api.ErrForm}, {"é", 36, api.ErrForm}, {"1.5e1e1", 10, api.ErrForm},
		{"1/0", 10, api.ErrZero}, {"0/0", 10, api.ErrZero}, {"-5/000", 10, api.ErrZero}, {"1e39", 10, api.ErrOver}, {"1d309", 10, api.ErrOver}, {"-1e99999999999999999999", 10, api.ErrOver},
		{"1", 1, api.ErrArg}, {"1", 37, api.ErrArg}, {"?", -1, api.ErrArg}, {long + "1", 0, api.ErrArg}, {"1", math.MinInt, api.ErrArg}, {long + "1", 10, api.ErrLarge}, {long + "?", 10, api.ErrLarge},
		// the digits in the base 10 are too many
		{long, 36, api.ErrLarge},
	} {
		x, e := number.Read(c.s, c.base, false)
		if e != c.want || x.Kind != 0 || x.Text != "" {
			t.Errorf("Read(%.20q, %d) = %v, %v; want %v", c.s, c.base, x, e, c.want)
		}
	}
	if x, e := number.Read(long, 10, false); x.Text != long || e != api.OK {
		t.Errorf("the longest token: %v", e)
	}
}

// P5.1: printing.
func TestPrint(t *testing.T) {
	for _, c := range []struct {
		x             string
		base          int
		radix, double bool
		want          string
	}{
		{"-255", 16, false, false, "-FF"}, {"-255", 16, true, false, "#x-FF"}, {"5", 2, true, false, "#b101"}, {"8", 8, true, false, "#o10"}, {"5", 3, true, false, "#3r12"}, {"35", 36, true, false, "#36rZ"}, {"12", 10, true, false, "12."}, {"-12", 10, true, false, "-12."}, {"0", 10, true, false, "0."}, {"0", 2, true, false, "#b0"}, {"1/2", 10, true, false, "#10r1/2"}, {"1/2", 10, false, false, "1/2"}, {"-17/16", 16, true, false, "#x-11/10"},
		{"1.5", 16, true, false, "1.5"}, {"1.5", 10, false, true, "1.5f0"}, {"1.5d0", 10, false, true, "1.5"}, {"1.5d0", 10, false, false, "1.5d0"}, {"1d20", 2, true, false, "1.0d20"}, {"1d20", 10, false, true, "1.0e20"}, {"-0.0", 10, true, false, "-0.0"},
		{"#C(1 -1/2)", 10, false, false, "#C(1 -1/2)"}, {"#C(1 -1/2)", 10, true, false, "#C(1. #10r-1/2)"}, {"#C(10 11)", 16, true, false, "#C(#xA #xB)"}, {"#C(1.0 -2.0)", 10, false, true, "#C(1.0f0 -2.0f0)"},
	} {
		s, e := number.Print(num(c.x), c.base, c.radix, c.double)
		if s != c.want || e != api.OK {
			t.Errorf("Print(%s, %d, %v, %v) = %q, %v", c.x, c.base, c.radix, c.double, s, e)
		}
	}
	for _, base := range []int{1, 37, 0, -10, math.MaxInt} {
		if s, e := number.Print(num("1.5"), base, false, false); s != "" || e != api.ErrArg {
			t.Errorf("Print in the base %d: %q, %v", base, s, e)
		}
	}
}

// P5.7: Read of Print is the number, in each base.
func TestTexts(t *testing.T) {
	for _, x := range append(reals(41, 200), floats()...) {
		for base := 2; base <= 36; base++ {
			for _, double := range []bool{false, true} {
				s, e := number.Print(x, base, false, double)
				y, f := number.Read(s, base, double)
				if y.Kind != x.Kind || y.Text != x.Text || e != api.OK || f != api.OK {
					t.Fatalf("%v is printed as %s, %v, and read as %v, %v", x, s, e, y, f)
				}
			}
		}
	}
}
