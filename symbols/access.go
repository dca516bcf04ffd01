package symbols

import "commonform/api"

// Find returns the accessible symbol with a name.
func (t *Table) Find(pack, name string) (symbol, status int, e api.Errno) {
	p, e := t.named(pack, name)
	if e != api.OK {
		return 0, None, e
	}
	symbol, status = p.find(name)
	return symbol, status, api.OK
}

// Intern returns the symbol with a name, and makes one if there is none.
func (t *Table) Intern(pack, name string) (symbol, status int, e api.Errno) {
	p, e := t.named(pack, name)
	if e != api.OK {
		return 0, None, e
	}
	symbol, status = p.find(name)
	if status != None {
		return symbol, status, api.OK
	}
	symbol, e = t.newSymbol(name, p.name)
	if e != api.OK {
		return 0, None, e
	}
	p.present[name] = symbol
	if p.name == keyword {
		p.external[symbol] = true
	}
	return symbol, None, api.OK
}

// Fresh makes a symbol without a home.
func (t *Table) Fresh(name string) (int, api.Errno) {
	if t == nil {
		return 0, api.ErrArg
	}
	if e := tooLong(name); e != api.OK {
		return 0, e
	}
	return t.newSymbol(name, "")
}

// Symbol returns a symbol's name and home.
func (t *Table) Symbol(symbol int) (name, home string, e api.Errno) {
	if t == nil {
		return "", "", api.ErrArg
	}
	if symbol < 0 || symbol >= len(t.symbols) {
		return "", "", api.ErrNone
	}
	return t.symbols[symbol].name, t.symbols[symbol].home, api.OK
}

// Export makes a symbol external.
func (t *Table) Export(pack string, symbol int) api.Errno {
	p, s, e := t.both(pack, symbol)
	if e != api.OK {
		return e
	}
	if n, _ := p.find(s.name); n != symbol {
		return ErrAccess
	}
	for user := range t.users(p) {
		if user.clashes(s.name, symbol) {
			return ErrClash
		}
	}
	p.present[s.name] = symbol
	p.external[symbol] = true
	return api.OK
}

// Unexport makes a symbol internal.
func (t *Table) Unexport(pack string, symbol int) api.Errno {
	p, s, e := t.both(pack, symbol)
	if e != api.OK {
		return e
	}
	if n, _ := p.find(s.name); n != symbol {
		return ErrAccess
	}
	if p.name == keyword {
		return api.ErrArg
	}
	delete(p.external, symbol)
	return api.OK
}

// Import makes a symbol present.
func (t *Table) Import(pack string, symbol int) api.Errno {
	p, s, e := t.both(pack, symbol)
	if e != api.OK {
		return e
	}
	if t.isPresent(p, symbol) {
		return api.OK
	}
	if n, status := p.find(s.name); status != None && n != symbol {
		return ErrClash
	}
	p.present[s.name] = symbol
	if s.home == "" {
		t.symbols[symbol].home = p.name
	}
	return api.OK
}

// Shadow makes a symbol with a name present and shadowing.
func (t *Table) Shadow(pack, name string) api.Errno {
	p, e := t.named(pack, name)
	if e != api.OK {
		return e
	}
	n, ok := p.present[name]
	if !ok {
		n, e = t.newSymbol(name, p.name)
		if e != api.OK {
			return e
		}
		p.present[name] = n
	}
	p.shadowing[n] = true
	return api.OK
}

// ShadowingImport makes a symbol present and shadowing.
func (t *Table) ShadowingImport(pack string, symbol int) api.Errno {
	p, s, e := t.both(pack, symbol)
	if e != api.OK {
		return e
	}
	if n, ok := p.present[s.name]; ok && n != symbol {
		t.remove(p, n)
	}
	p.present[s.name] = symbol
	p.shadowing[symbol] = true
	return api.OK
}

// Unintern takes a symbol away from a package.
func (t *Table) Unintern(pack string, symbol int) (bool, api.Errno) {
	p, s, e := t.both(pack, symbol)
	if e != api.OK || !t.isPresent(p, symbol) {
		return false, e
	}
	if p.shadowing[symbol] && p.hides(s.name) {
		return false, ErrClash
	}
	t.remove(p, symbol)
	return true, api.OK
}

// remove takes a symbol that is present away from a package.
func (t *Table) remove(p *pack, symbol int) {
	s := &t.symbols[symbol]
	delete(p.present, s.name)
	delete(p.external, symbol)
	delete(p.shadowing, symbol)
	if s.home == p.name {
		s.home = ""
	}
}
