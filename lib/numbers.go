package lib

import (
	"math"
	"strconv"
	"strings"

	"commonform/api"
	"commonform/heap"
	"commonform/number"
)

const (
	maxShift = 65536
	maxPower = 4096
)

// Operations of number.Boole, and ways of number.Quotient.
const (
	bitAnd      = 8
	bitOr       = 14
	bitXor      = 6
	floorWay    = 0
	ceilingWay  = 1
	truncateWay = 2
	roundWay    = 3
)

func numberRoutines() map[string]routine {
	return map[string]routine{
		"+":           fold("0", number.Add),
		"*":           fold("1", number.Mul),
		"-":           less(number.Neg, number.Sub),
		"/":           less(func(x api.Form) (api.Form, api.Errno) { return number.Div(integer("1"), x) }, number.Div),
		"=":           one((*World).allEqual),
		"/=":          one((*World).noneEqual),
		"<":           ordered(func(c int) bool { return c < 0 }),
		"<=":          ordered(func(c int) bool { return c <= 0 }),
		">":           ordered(func(c int) bool { return c > 0 }),
		">=":          ordered(func(c int) bool { return c >= 0 }),
		"MAX":         extreme(1),
		"MIN":         extreme(-1),
		"ABS":         unary(number.Abs),
		"FLOOR":       quotient(floorWay),
		"CEILING":     quotient(ceilingWay),
		"TRUNCATE":    quotient(truncateWay),
		"ROUND":       quotient(roundWay),
		"MOD":         remainder(floorWay),
		"REM":         remainder(truncateWay),
		"GCD":         listed(number.Gcd),
		"LCM":         listed(number.Lcm),
		"LOGAND":      fold("-1", boole(bitAnd)),
		"LOGIOR":      fold("0", boole(bitOr)),
		"LOGXOR":      fold("0", boole(bitXor)),
		"LOGNOT":      unary(func(x api.Form) (api.Form, api.Errno) { return number.Sub(integer("-1"), x) }),
		"ASH":         one((*World).shifted),
		"EXPT":        one((*World).power),
		"NUMERATOR":   unary(number.Numerator),
		"DENOMINATOR": unary(number.Denominator),
		"COMPLEX":     one((*World).complex),
		"REALPART":    unary(number.Real),
		"IMAGPART":    unary(number.Imaginary),
		"RATIONAL":    unary(number.Rational),
		"RATIONALIZE": unary(number.Rationalize),
		"FLOAT":       one((*World).float),
	}
}

func integer(text string) api.Form { return api.Form{Kind: api.FormInt, Text: text} }

func (w *World) isNumber(x heap.Word) bool {
	_, small := x.Fixnum()
	kind := w.heap.Kind(x)
	return small || kind >= heap.KindInt && kind <= heap.KindComplex
}

func (w *World) isInteger(x heap.Word) bool {
	_, small := x.Fixnum()
	return small || w.heap.Kind(x) == heap.KindInt
}

// isNatural reports whether an object is an integer from 0 on.
func (w *World) isNatural(x heap.Word) bool {
	n, small := x.Fixnum()
	if small {
		return n >= 0
	}
	text, e := w.heap.Bytes(x)
	return w.heap.Kind(x) == heap.KindInt && e == api.OK && !strings.HasPrefix(text, "-")
}

// index returns the value of an integer from 0 on, if it is small enough for an int.
func (w *World) index(x heap.Word) (int, bool) {
	n, small := x.Fixnum()
	return int(n), small && n >= 0
}

// numberForm returns the form of a number.
func (w *World) numberForm(x heap.Word) (api.Form, bool) {
	if n, ok := x.Fixnum(); ok {
		return integer(strconv.FormatInt(n, 10)), true
	}
	if !w.isNumber(x) {
		return api.Form{}, false
	}
	kind := w.heap.Kind(x)
	if kind != heap.KindComplex {
		return api.Form{Kind: kind, Text: w.text(x)}, true
	}
	f := api.Form{Kind: kind}
	for _, part := range w.fields(x) {
		if w.heap.Kind(part) == heap.KindComplex {
			part = heap.Unbound // parts of parts need not end
		}
		kid, _ := w.numberForm(part)
		f.Kids = append(f.Kids, kid)
	}
	return f, true
}

// form returns the form of an argument that is a number.
func (w *World) form(x heap.Word) api.Form {
	f, _ := w.numberForm(x)
	return f
}

// number makes the object of a number's form, or a fault of the code of an operation with some arguments.
func (w *World) number(f api.Form, e api.Errno, args []heap.Word) heap.Word {
	w.calculated(e, args)
	if f.Kind == api.FormInt {
		if x, ok := smallInteger(f.Text); ok {
			return x
		}
	}
	if f.Kind != api.FormComplex {
		return made(w.heap.Raw(f.Kind, f.Text))
	}
	re := w.number(f.Kids[0], api.OK, args)
	im := w.number(f.Kids[1], api.OK, args)
	x := made(w.heap.New(heap.KindComplex, 2))
	w.heap.Set(x, 0, re)
	w.heap.Set(x, 1, im)
	return x
}

// calculated leaves the builtin function, if an operation with some arguments had an error.
func (w *World) calculated(e api.Errno, args []heap.Word) {
	switch e {
	case api.OK:
		return
	case api.ErrZero:
		fail("DIVISION-BY-ZERO")
	case api.ErrType:
		for _, x := range args {
			if w.heap.Kind(x) == heap.KindComplex {
				w.wrong(x, "REAL")
			}
		}
	}
	fail("ARITHMETIC-ERROR")
}

// unary makes a routine of a function of one number.
func unary(f func(api.Form) (api.Form, api.Errno)) routine {
	return one(func(w *World, a []heap.Word) heap.Word {
		x, e := f(w.form(a[0]))
		return w.number(x, e, a)
	})
}

// fold makes a routine that takes one argument after the other to what it has, at first a certain integer.
func fold(first string, f func(x, y api.Form) (api.Form, api.Errno)) routine {
	return one(func(w *World, a []heap.Word) heap.Word { return w.folded(integer(first), a, f) })
}

func (w *World) folded(x api.Form, a []heap.Word, f func(x, y api.Form) (api.Form, api.Errno)) heap.Word {
	for _, y := range a {
		var e api.Errno
		x, e = f(x, w.form(y))
		w.calculated(e, a)
	}
	return w.number(x, api.OK, a)
}

// less makes the routine of - or of /.
func less(single func(api.Form) (api.Form, api.Errno), f func(x, y api.Form) (api.Form, api.Errno)) routine {
	of := unary(single)
	return func(w *World, a []heap.Word) Answer {
		if len(a) == 1 {
			return of(w, a)
		}
		return values(w.folded(w.form(a[0]), a[1:], f))
	}
}

func boole(op int) func(x, y api.Form) (api.Form, api.Errno) {
	return func(x, y api.Form) (api.Form, api.Errno) { return number.Boole(op, x, y) }
}

// listed makes a routine of a function of some numbers.
func listed(f func([]api.Form) (api.Form, api.Errno)) routine {
	return one(func(w *World, a []heap.Word) heap.Word {
		x, e := f(w.forms(a))
		return w.number(x, e, a)
	})
}

// forms returns the forms of numbers.
func (w *World) forms(a []heap.Word) []api.Form {
	var l []api.Form
	for _, x := range a {
		l = append(l, w.form(x))
	}
	return l
}

// equal reports whether two numbers are equal.
func (w *World) equal(x, y heap.Word) bool {
	same, e := number.Equals(w.form(x), w.form(y))
	w.calculated(e, []heap.Word{x, y})
	return same
}

func (w *World) allEqual(a []heap.Word) heap.Word {
	for i := range len(a) - 1 {
		if !w.equal(a[i], a[i+1]) {
			return heap.Nil
		}
	}
	return w.truth(true)
}

func (w *World) noneEqual(a []heap.Word) heap.Word {
	for i := range a {
		for k := range i {
			if w.equal(a[k], a[i]) {
				return heap.Nil
			}
		}
	}
	return w.truth(true)
}

// compare returns how two numbers compare.
func (w *World) compare(x, y heap.Word) int {
	c, e := number.Cmp(w.form(x), w.form(y))
	w.calculated(e, []heap.Word{x, y})
	return c
}

// ordered makes a routine that tells whether each number and the next one compare so.
func ordered(ok func(int) bool) routine {
	return one(func(w *World, a []heap.Word) heap.Word {
		for i := range len(a) - 1 {
			if !ok(w.compare(a[i], a[i+1])) {
				return heap.Nil
			}
		}
		return w.truth(true)
	})
}

// extreme makes the routine of MAX, or with the sign -1 of MIN.
func extreme(sign int) routine {
	return one(func(w *World, a []heap.Word) heap.Word {
		found := a[0]
		for _, x := range a[1:] {
			if w.compare(x, found)*sign > 0 {
				found = x
			}
		}
		return found
	})
}

// divided returns the quotient and the remainder of two numbers, of which the second one may be missing.
func (w *World) divided(way int, a []heap.Word) (heap.Word, heap.Word) {
	by := integer("1")
	if len(a) > 1 {
		by = w.form(a[1])
	}
	q, r, e := number.Quotient(way, w.form(a[0]), by)
	w.calculated(e, a)
	return w.number(q, e, a), w.number(r, e, a)
}

func quotient(way int) routine {
	return func(w *World, a []heap.Word) Answer {
		q, r := w.divided(way, a)
		return values(q, r)
	}
}

func remainder(way int) routine {
	return one(func(w *World, a []heap.Word) heap.Word {
		_, r, e := number.Quotient(way, w.form(a[0]), w.form(a[1]))
		return w.number(r, e, a)
	})
}

// between returns the value of an integer that is not beyond a limit to either side; otherwise one beyond it, to this side.
func (w *World) between(x heap.Word, limit int) int {
	n, small := x.Fixnum()
	if !small {
		n = math.MaxInt32
		if !w.isNatural(x) {
			n = -n
		}
	}
	return int(max(min(n, int64(limit)+1), -int64(limit)-1))
}

func (w *World) shifted(a []heap.Word) heap.Word {
	x := w.form(a[0])
	n := max(w.between(a[1], maxShift), -maxShift)
	if x.Text == "0" {
		return fixnum(0)
	}
	if n > maxShift {
		fail("ARITHMETIC-ERROR")
	}
	y, e := number.Shift(x, n)
	return w.number(y, e, a)
}

func (w *World) power(a []heap.Word) heap.Word {
	n := w.between(a[1], maxPower)
	if n > maxPower || n < -maxPower {
		fail("ARITHMETIC-ERROR")
	}
	y, e := number.Power(w.form(a[0]), n)
	return w.number(y, e, a)
}

func (w *World) complex(a []heap.Word) heap.Word {
	im := integer("0")
	if len(a) > 1 {
		im = w.form(a[1])
	}
	x, e := number.Complex(w.form(a[0]), im)
	return w.number(x, e, a)
}

func isFloat(f api.Form) bool { return f.Kind == api.FormSingle || f.Kind == api.FormDouble }

func (w *World) float(a []heap.Word) heap.Word {
	x, kind := w.form(a[0]), api.FormSingle
	switch {
	case len(a) > 1 && isFloat(w.form(a[1])):
		kind = w.form(a[1]).Kind
	case isFloat(x):
		return a[0]
	}
	y, e := number.Float(x, kind)
	return w.number(y, e, a)
}
