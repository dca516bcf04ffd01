package number_test

import (
	"math/rand"
	"testing"

	"commonform/api"
	"commonform/number"
)

// garbage returns forms of all kinds, whose parts fit together only now and then.
func garbage(r *rand.Rand, depth int) api.Form {
	texts := []string{"", "0", "1", "-1", "01", "-0", "1/2", "2/4", "1/0", "/", "3f800000", "7f800000", "3ff0000000000000", "00000000", "é", "\xff", "-", "+1", "12345678901234567890"}
	f := api.Form{Kind: r.Intn(17) - 1, Text: texts[r.Intn(len(texts))]}
	if r.Intn(3) > 0 {
		f.Kind = api.FormInt + r.Intn(5)
	}
	if r.Intn(9) == 0 {
		f.Home = "X"
	}
	if depth > 0 && (f.Kind == api.FormComplex || r.Intn(9) == 0) {
		f.Text = texts[r.Intn(2)*r.Intn(len(texts))]
		for range r.Intn(4) {
			kid := garbage(r, depth-1)
			f.Kids = append(f.Kids, kid)
		}
	}
	return f
}

// P1: no function panics, and with an error there is no result.
func TestGarbage(t *testing.T) {
	r := rand.New(rand.NewSource(51))
	for range 20000 {
		x, y := garbage(r, 2), garbage(r, 2)
		for name, f := range unaries() {
			if z, e := f(x); e != api.OK && (z.Kind != 0 || z.Text != "" || len(z.Kids) > 0) {
				t.Errorf("%s of %v = %v, %v", name, x, z, e)
			}
		}
		for name, f := range binaries() {
			if z, e := f(x, y); e != api.OK && (z.Kind != 0 || z.Text != "" || len(z.Kids) > 0) {
				t.Errorf("%s of %v and %v = %v, %v", name, x, y, z, e)
			}
		}
		number.Power(x, r.Intn(20)-10)
		number.Float(x, api.FormSingle+r.Intn(2))
		number.Shift(x, r.Intn(100)-50)
		number.Quotient(r.Intn(4), x, y)
		number.Boole(r.Intn(16), x, y)
		number.Print(x, 2+r.Intn(35), true, true)
		number.Read(x.Text, 2+r.Intn(35), false)
	}
	// Kids without an end
	loop := []api.Form{num("1"), num("1")}
	loop[1] = api.Form{Kind: api.FormComplex, Kids: loop}
	if e := number.Check(loop[1]); e != api.ErrForm {
		t.Errorf("a complex number within itself: %v", e)
	}
}
