package symbols

import (
	"slices"
	"strconv"
	"strings"

	"commonform/api"
)

const (
	maxText = 200000 // bytes of a text
	none    = "-"
)

// Text returns all of a table as a text.
func (t *Table) Text() string {
	if t == nil {
		return ""
	}
	var b strings.Builder
	line := func(words ...string) { b.WriteString(strings.Join(words, " ") + "\n") }
	for _, s := range t.symbols {
		home := none
		if s.home != "" {
			home = digitsOf(s.home)
		}
		line("symbol", digitsOf(s.name), home)
	}
	for _, p := range t.packages {
		x := t.known(p)
		line("package", digitsOf(x.Name), joined(x.Nicknames, digitsOf), joined(x.Uses, digitsOf), joined(x.Internal, strconv.Itoa), joined(x.External, strconv.Itoa), joined(x.Shadowing, strconv.Itoa))
	}
	return b.String()
}

// digitsOf returns the hexadecimal digits of the bytes of a name.
func digitsOf(name string) string {
	const digits = "0123456789abcdef"
	b := []byte{'x'}
	for i := range len(name) {
		b = append(b, digits[name[i]>>4], digits[name[i]&15])
	}
	return string(b)
}

// joined returns the text of a list whose elements are written by a function.
func joined[T any](l []T, write func(T) string) string {
	if len(l) == 0 {
		return none
	}
	var words []string
	for _, x := range l {
		words = append(words, write(x))
	}
	return strings.Join(words, ",")
}

// Parse returns the table with a text.
func Parse(s string) (*Table, api.Errno) {
	if len(s) > maxText {
		return nil, api.ErrSize
	}
	t, ok := parsed(s)
	// whatever was read too kindly is written in another way
	if !ok || !t.right() || t.Text() != s {
		return nil, api.ErrForm
	}
	return t, api.OK
}

// parsed returns the table of a text, and whether it can be read.
func parsed(s string) (*Table, bool) {
	t := empty()
	var lines [][]string // of packages
	for _, line := range strings.Split(strings.TrimSuffix(s, "\n"), "\n") {
		words := strings.Split(line, " ")
		switch {
		case words[0] == "symbol" && len(words) == 3:
			if !t.parseSymbol(words) {
				return nil, false
			}
		case words[0] == "package" && len(words) == 7:
			if !t.parsePackage(words) {
				return nil, false
			}
			lines = append(lines, words)
		default:
			return nil, false
		}
	}
	for i, words := range lines {
		if !t.fill(t.packages[i], words) {
			return nil, false
		}
	}
	return t, true
}

// parseSymbol makes the symbol of a line.
func (t *Table) parseSymbol(words []string) bool {
	name, ok := parseName(words[1])
	if !ok {
		return false
	}
	home := ""
	if words[2] != none {
		home, ok = parseName(words[2])
	}
	_, e := t.newSymbol(name, home)
	return ok && e == api.OK
}

// parsePackage makes the package of a line, without its symbols.
func (t *Table) parsePackage(words []string) bool {
	name, ok := parseName(words[1])
	nicknames, well := parseList(words[2], parseName)
	if !ok || !well || name == "" || len(t.packages) >= maxPackages || t.taken(append([]string{name}, nicknames...)) {
		return false
	}
	t.add(name, nicknames)
	return true
}

// parseName returns a name, and whether it is one.
func parseName(s string) (string, bool) {
	digits, ok := strings.CutPrefix(s, "x")
	if !ok || len(digits)%2 > 0 || len(digits)/2 > api.MaxName {
		return "", false
	}
	var name []byte
	for i := 0; i < len(digits); i += 2 {
		n, e := strconv.ParseUint(digits[i:i+2], 16, 8)
		if e != nil {
			return "", false
		}
		name = append(name, byte(n))
	}
	return string(name), true
}

func parseNumber(s string) (int, bool) {
	n, e := strconv.Atoi(s)
	return n, e == nil
}

// parseList returns the elements of a list, and whether it is one.
func parseList[T any](s string, parse func(string) (T, bool)) ([]T, bool) {
	if s == none {
		return nil, true
	}
	var l []T
	for _, word := range strings.Split(s, ",") {
		x, ok := parse(word)
		if !ok {
			return nil, false
		}
		l = append(l, x)
	}
	return l, true
}

// fill gives a package what it uses, and its symbols.
func (t *Table) fill(p *pack, words []string) bool {
	uses, ok := parseList(words[3], parseName)
	if !ok {
		return false
	}
	for _, name := range uses {
		used, known := t.names[name]
		if !known || used == p || used.name == keyword || slices.Contains(p.uses, used) {
			return false
		}
		p.uses = append(p.uses, used)
	}
	internal, a := parseList(words[4], parseNumber)
	external, b := parseList(words[5], parseNumber)
	shadowing, c := parseList(words[6], parseNumber)
	if !a || !b || !c || !t.place(p, internal) || !t.place(p, external) {
		return false
	}
	for _, n := range external {
		p.external[n] = true
	}
	for _, n := range shadowing {
		if n < 0 || n >= len(t.symbols) || !t.isPresent(p, n) {
			return false
		}
		p.shadowing[n] = true
	}
	return true
}

// place makes symbols present; false, if there is no such symbol, or another one has its name.
func (t *Table) place(p *pack, l []int) bool {
	for _, n := range l {
		if n < 0 || n >= len(t.symbols) {
			return false
		}
		name := t.symbols[n].name
		if _, there := p.present[name]; there {
			return false
		}
		p.present[name] = n
	}
	return true
}

// right reports whether a table that was read has the first packages, right homes, and no conflict.
func (t *Table) right() bool {
	first := New().packages
	if len(t.packages) < len(first) {
		return false
	}
	for i, p := range first {
		if t.packages[i].name != p.name || !slices.Equal(t.packages[i].nicknames, p.nicknames) {
			return false
		}
	}
	for n, s := range t.symbols {
		if home, ok := t.names[s.home]; s.home != "" && (!ok || home.name != s.home || !t.isPresent(home, n)) {
			return false
		}
	}
	return !slices.ContainsFunc(t.packages, (*pack).inheritsTwo)
}
