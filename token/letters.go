package token

func isSmall(c rune) bool { return 'a' <= c && c <= 'z' }

func isGreat(c rune) bool { return 'A' <= c && c <= 'Z' }

func small(c rune) rune {
	if isGreat(c) {
		return c - 'A' + 'a'
	}
	return c
}

func great(c rune) rune {
	if isSmall(c) {
		return c - 'a' + 'A'
	}
	return c
}

// change changes the letters that are not escaped.
func (x Token) change(mode int) {
	if mode == Invert {
		mode = x.inversion()
	}
	for i, c := range x.Chars {
		switch {
		case x.Escaped[i]:
		case mode == Upcase:
			x.Chars[i] = great(c)
		case mode == Downcase:
			x.Chars[i] = small(c)
		}
	}
}

// inversion returns the case to which Invert changes a token.
func (x Token) inversion() int {
	smalls, greats := false, false
	for i, c := range x.Chars {
		smalls = smalls || isSmall(c) && !x.Escaped[i]
		greats = greats || isGreat(c) && !x.Escaped[i]
	}
	switch {
	case !greats:
		return Upcase
	case !smalls:
		return Downcase
	}
	return Preserve
}

// opposite returns the case that changes letters back.
func opposite(mode int) int {
	switch mode {
	case Upcase:
		return Downcase
	case Downcase:
		return Upcase
	}
	return mode
}
