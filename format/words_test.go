package format_test

import (
	"math/big"
	"math/rand"
	"slices"
	"strconv"
	"strings"
	"testing"

	"commonform/api"
	"commonform/format"
	"commonform/number"
)

// P13.1: words and numerals.
func TestWords(t *testing.T) {
	for _, c := range []struct{ n, cardinal, ordinal string }{
		{"0", "zero", "zeroth"}, {"1", "one", "first"}, {"2", "two", "second"}, {"3", "three", "third"}, {"4", "four", "fourth"}, {"5", "five", "fifth"}, {"6", "six", "sixth"}, {"7", "seven", "seventh"}, {"8", "eight", "eighth"}, {"9", "nine", "ninth"}, {"10", "ten", "tenth"}, {"11", "eleven", "eleventh"}, {"12", "twelve", "twelfth"}, {"13", "thirteen", "thirteenth"}, {"14", "fourteen", "fourteenth"}, {"15", "fifteen", "fifteenth"}, {"16", "sixteen", "sixteenth"}, {"17", "seventeen", "seventeenth"}, {"18", "eighteen", "eighteenth"}, {"19", "nineteen", "nineteenth"},
		{"20", "twenty", "twentieth"}, {"30", "thirty", "thirtieth"}, {"40", "forty", "fortieth"}, {"50", "fifty", "fiftieth"}, {"60", "sixty", "sixtieth"}, {"70", "seventy", "seventieth"}, {"80", "eighty", "eightieth"}, {"90", "ninety", "ninetieth"}, {"21", "twenty-one", "twenty-first"}, {"99", "ninety-nine", "ninety-ninth"}, {"-12", "minus twelve", "minus twelfth"},
		{"100", "one hundred", "one hundredth"}, {"110", "one hundred ten", "one hundred tenth"}, {"999", "nine hundred ninety-nine", "nine hundred ninety-ninth"}, {"1000", "one thousand", "one thousandth"}, {"1001", "one thousand one", "one thousand first"}, {"20000", "twenty thousand", "twenty thousandth"}, {"1000001", "one million one", "one million first"}, {"-1000000", "minus one million", "minus one millionth"}, {"2003000400", "two billion three million four hundred", "two billion three million four hundredth"},
		{"1000000000000", "one trillion", "one trillionth"}, {"1000000000000000", "one quadrillion", "one quadrillionth"}, {"1000000000000000000", "one quintillion", "one quintillionth"}, {"100000000000000000000000", "one hundred sextillion", "one hundred sextillionth"}, {"1000000000000000000000", "one sextillion", "one sextillionth"},
	} {
		s, e := format.Cardinal(whole(c.n))
		puts(t, "Cardinal of "+c.n, s, e, c.cardinal)
		s, e = format.Ordinal(whole(c.n))
		puts(t, "Ordinal of "+c.n, s, e, c.ordinal)
	}
	for n, want := range map[int][2]string{1: {"I", "I"}, 4: {"IV", "IIII"}, 9: {"IX", "VIIII"}, 14: {"XIV", "XIIII"}, 40: {"XL", "XXXX"}, 90: {"XC", "LXXXX"}, 400: {"CD", "CCCC"}, 900: {"CM", "DCCCC"}, 1994: {"MCMXCIV", "MDCCCCLXXXXIIII"}, 3888: {"MMMDCCCLXXXVIII", "MMMDCCCLXXXVIII"}, 3999: {"MMMCMXCIX", "MMMDCCCCLXXXXVIIII"}, 4000: {"!3", "MMMM"}, 4999: {"!3", "MMMMDCCCCLXXXXVIIII"}, 5000: {"!3", "!3"}, 0: {"!3", "!3"}, -5: {"!3", "!3"}} {
		for i, old := range []bool{false, true} {
			s, e := format.Roman(whole(strconv.Itoa(n)), old)
			puts(t, "Roman of "+strconv.Itoa(n), s, e, want[i])
		}
	}
	nines := repeat("9", 24)
	for _, n := range []string{nines, "-" + nines} {
		_, e := format.Cardinal(whole(n))
		fails(t, "Cardinal of "+n, e, api.OK)
		_, e = format.Ordinal(whole(n))
		fails(t, "Ordinal of "+n, e, api.OK)
	}
	for _, c := range []struct {
		x    api.Form
		want string
	}{
		{whole("1" + repeat("0", 24)), "!3"}, {whole("-1" + repeat("0", 24)), "!3"}, {whole(repeat("1", 20000)), "!3"}, {whole(repeat("1", 20001)), "!13"}, {api.Form{}, "!13"}, {args("1.0")[0], "!13"}, {args("1/2")[0], "!13"}, {str("1"), "!13"}, {whole("01"), "!13"}, {whole("x"), "!13"}, {whole(""), "!13"}, {api.Form{Kind: api.FormInt, Text: "1", Home: "X"}, "!13"}, {api.Form{Kind: api.FormInt, Text: "1", Kids: args("1")}, "!13"},
	} {
		s, e := format.Cardinal(c.x)
		puts(t, "Cardinal", s, e, c.want)
		s, e = format.Ordinal(c.x)
		puts(t, "Ordinal", s, e, c.want)
		s, e = format.Roman(c.x, true)
		puts(t, "Roman", s, e, c.want)
	}
}

// meant returns the number that words mean.
func meant(s string) *big.Int {
	units := strings.Fields("zero one two three four five six seven eight nine ten eleven twelve thirteen fourteen fifteen sixteen seventeen eighteen nineteen")
	tens := strings.Fields("x x twenty thirty forty fifty sixty seventy eighty ninety")
	groups := strings.Fields("x thousand million billion trillion quadrillion quintillion sextillion")
	total, group := new(big.Int), int64(0)
	rest, minus := strings.CutPrefix(s, "minus ")
	for _, w := range strings.FieldsFunc(rest, func(c rune) bool { return c == ' ' || c == '-' }) {
		if i := slices.Index(groups, w); i > 0 {
			power := new(big.Int).Exp(big.NewInt(1000), big.NewInt(int64(i)), nil)
			total.Add(total, power.Mul(power, big.NewInt(group)))
			group = 0
		} else if w == "hundred" {
			group *= 100
		} else if i := slices.Index(tens, w); i > 0 {
			group += int64(i) * 10
		} else if i := slices.Index(units, w); i >= 0 {
			group += int64(i)
		} else {
			return nil
		}
	}
	total.Add(total, big.NewInt(group))
	if minus {
		total.Neg(total)
	}
	return total
}

func anyInteger(r *rand.Rand) *big.Int {
	n := new(big.Int).Rand(r, new(big.Int).Exp(big.NewInt(10), big.NewInt(1+r.Int63n(24)), nil))
	if r.Intn(3) == 0 {
		n.Quo(n, new(big.Int).Exp(big.NewInt(10), big.NewInt(r.Int63n(20)), nil))
		n.Mul(n, new(big.Int).Exp(big.NewInt(10), big.NewInt(r.Int63n(4)), nil))
	}
	if n.BitLen() > 79 {
		n.Rsh(n, 10)
	}
	if r.Intn(2) == 0 {
		n.Neg(n)
	}
	return n
}

// P13.2: the words of an integer mean it.
func TestMeaning(t *testing.T) {
	r := rand.New(rand.NewSource(132))
	for i := range 5000 {
		n := anyInteger(r)
		if i < 2000 {
			n = big.NewInt(int64(i - 1000))
		}
		s, e := format.Cardinal(whole(n.String()))
		if got := meant(s); e != api.OK || got == nil || got.Cmp(n) != 0 {
			t.Errorf("Cardinal of %v is %q, %v", n, s, e)
		}
	}
}

// P13.2: Roman numerals are read back by their letters, and rise.
func TestNumerals(t *testing.T) {
	values := map[rune]int{'M': 1000, 'D': 500, 'C': 100, 'L': 50, 'X': 10, 'V': 5, 'I': 1}
	for n := 1; n < 5000; n++ {
		s, e := format.Roman(whole(strconv.Itoa(n)), true)
		sum := 0
		for _, c := range s {
			sum += values[c]
		}
		if e != api.OK || sum != n || strings.Contains(s, "IIIII") || strings.Contains(s, "VV") || strings.Contains(s, "XXXXX") {
			t.Errorf("old Roman of %d: %q, %v", n, s, e)
		}
		if n > 3999 {
			continue
		}
		s, e = format.Roman(whole(strconv.Itoa(n)), false)
		sum = 0
		for i, c := range s {
			if i+1 < len(s) && values[rune(s[i+1])] > values[c] {
				sum -= values[c]
			} else {
				sum += values[c]
			}
		}
		if e != api.OK || sum != n || strings.Contains(s, "IIII") || strings.Contains(s, "XXXX") || strings.Contains(s, "CCCC") {
			t.Errorf("Roman of %d: %q, %v", n, s, e)
		}
	}
}

// P13.2: ~D, and ~R in each radix, are read back.
func TestReadBack(t *testing.T) {
	r := rand.New(rand.NewSource(133))
	for range 2000 {
		n := anyInteger(r)
		x := whole(n.String())
		controls := map[string]int{"~D": 10, "~:D": 10, "~B": 2, "~:O": 8, "~X": 16}
		radix := 2 + r.Intn(35)
		controls["~"+strconv.Itoa(radix)+"R"] = radix
		for control, base := range controls {
			s, e := format.Format(control, []api.Form{x})
			got, f := number.Read(strings.ReplaceAll(s, ",", ""), base, false)
			if e != api.OK || f != api.OK || got.Text != x.Text {
				t.Errorf("%s of %v: %q, %v", control, n, s, e)
			}
		}
	}
}
