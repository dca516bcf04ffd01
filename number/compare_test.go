package number_test

import (
	"testing"

	"commonform/api"
	"commonform/number"
)

// P5.3: Cmp is the order of the values, and Equals and Eql agree with it.
func TestCompare(t *testing.T) {
	l := reals(11, 60)
	for _, x := range l {
		for _, y := range l {
			n, e := number.Cmp(x, y)
			equals, f := number.Equals(x, y)
			eql, g := number.Eql(x, y)
			want := bigOf(x).Cmp(bigOf(y))
			if n != want || equals != (want == 0) || eql != (x.Kind == y.Kind && x.Text == y.Text) || eql && !equals || e != api.OK || f != api.OK || g != api.OK {
				t.Errorf("%v and %v: %d, %v, %v", x, y, n, equals, eql)
			}
		}
	}
	for _, c := range []struct {
		x, y        string
		equals, eql bool
	}{
		{"-0.0", "0", true, false}, {"-0.0", "0.0", true, false}, {"1.0", "1", true, false}, {"1.0", "1d0", true, false}, {"#C(1.0 0.0)", "1", true, false}, {"#C(1 2)", "#C(1.0 2.0)", true, false}, {"#C(1 2)", "#C(1 2)", true, true}, {"#C(1 2)", "#C(1 3)", false, false}, {"#C(1 2)", "#C(2 2)", false, false}, {"#C(1 2)", "1", false, false}, {"0.1", "1/10", false, false}, {"0.1", "0.1d0", false, false}, {"0.5", "1/2", true, false}, {"#C(0.0 -0.0)", "#C(0.0 0.0)", true, false},
	} {
		equals, e := number.Equals(num(c.x), num(c.y))
		eql, f := number.Eql(num(c.x), num(c.y))
		if equals != c.equals || eql != c.eql || e != api.OK || f != api.OK {
			t.Errorf("%s and %s: %v, %v", c.x, c.y, equals, eql)
		}
	}
	if n, e := number.Cmp(num("1/3"), leaf(api.FormSingle, "3eaaaaab")); n != -1 || e != api.OK {
		t.Errorf("1/3 and the float nearest to it: %d, %v", n, e)
	}
}

// P5.1: the first one of the greatest.
func TestGreatest(t *testing.T) {
	for _, c := range []struct {
		l    []string
		want string
	}{{nil, "!5"}, {[]string{"1", "2.0", "2"}, "2.0"}, {[]string{"2", "2.0", "1"}, "2"}, {[]string{"-0.0", "0"}, "-0.0"}, {[]string{"-5"}, "-5"}, {[]string{"1/3", "0.33333334"}, "0.33333334"}, {[]string{"1", "#C(1 1)"}, "!13"}} {
		var l []api.Form
		for _, s := range c.l {
			l = append(l, num(s))
		}
		x, e := number.Greatest(l)
		equal(t, "Greatest", shown(t, x, e), c.want)
	}
}
