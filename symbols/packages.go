package symbols

import (
	"slices"

	"commonform/api"
)

// Make makes a package.
func (t *Table) Make(name string, nicknames, uses []string) api.Errno {
	if t == nil {
		return api.ErrArg
	}
	names := append([]string{name}, nicknames...)
	if e := tooLong(append(slices.Clone(names), uses...)...); e != api.OK {
		return e
	}
	switch {
	case name == "":
		return api.ErrArg
	case t.taken(names):
		return api.ErrTwice
	}
	used, e := t.usable(uses)
	if e != api.OK {
		return e
	}
	if len(t.packages) >= maxPackages {
		return api.ErrFull
	}
	t.add(name, nicknames).uses = used
	return api.OK
}

// taken reports whether one of several names is that of a package, or stands twice.
func (t *Table) taken(names []string) bool {
	for i, name := range names {
		if _, ok := t.names[name]; ok || slices.Contains(names[:i], name) {
			return true
		}
	}
	return false
}

// usable returns the packages that a new one is to use.
func (t *Table) usable(uses []string) ([]*pack, api.Errno) {
	var used []*pack
	for _, name := range uses {
		p, ok := t.names[name]
		if !ok {
			return nil, api.ErrNone
		}
		used = append(used, p)
	}
	if slices.Contains(used, t.names[keyword]) {
		return nil, api.ErrArg
	}
	for i, p := range used {
		if slices.Contains(used[:i], p) {
			return nil, api.ErrTwice
		}
	}
	if (&pack{uses: used}).inheritsTwo() {
		return nil, ErrClash
	}
	return used, api.OK
}

// inheritsTwo reports whether a package inherits different symbols with the same name, which no shadowing one hides.
func (p *pack) inheritsTwo() bool {
	met := map[string]int{}
	// other tells whether a symbol is another one than that which has its name
	other := func(name string, n int) bool {
		first, ok := met[name]
		if present, there := p.present[name]; there {
			return present != n && !p.shadowing[present]
		}
		return ok && first != n
	}
	for _, used := range p.uses {
		for name, n := range used.exported() {
			if other(name, n) {
				return true
			}
			met[name] = n
		}
	}
	return false
}

// Delete takes a package away.
func (t *Table) Delete(name string) api.Errno {
	p, e := t.named(name)
	if e != api.OK {
		return e
	}
	if p.name == lisp || p.name == keyword || p.name == user {
		return api.ErrArg
	}
	for range t.users(p) {
		return ErrUsed
	}
	for i := range t.symbols {
		if t.symbols[i].home == p.name {
			t.symbols[i].home = ""
		}
	}
	delete(t.names, p.name)
	for _, nickname := range p.nicknames {
		delete(t.names, nickname)
	}
	t.packages = slices.DeleteFunc(t.packages, func(other *pack) bool { return other == p })
	return api.OK
}

// Use makes a package use another one.
func (t *Table) Use(name, other string) api.Errno {
	p, used, e := t.pair(name, other)
	switch {
	case e != api.OK:
		return e
	case used == p || used.name == keyword:
		return api.ErrArg
	case slices.Contains(p.uses, used):
		return api.OK
	}
	for name, n := range used.exported() {
		if p.clashes(name, n) {
			return ErrClash
		}
	}
	p.uses = append(p.uses, used)
	return api.OK
}

// Unuse ends it.
func (t *Table) Unuse(name, other string) api.Errno {
	p, used, e := t.pair(name, other)
	if e != api.OK {
		return e
	}
	p.uses = slices.DeleteFunc(p.uses, func(one *pack) bool { return one == used })
	return api.OK
}

// pair returns two packages.
func (t *Table) pair(name, other string) (p, q *pack, e api.Errno) {
	p, e = t.named(name, other)
	if e != api.OK {
		return nil, nil, e
	}
	q, e = t.named(other)
	if e != api.OK {
		return nil, nil, e
	}
	return p, q, api.OK
}

// Packages returns the names of all packages.
func (t *Table) Packages() []string {
	if t == nil {
		return nil
	}
	return namesOf(t.packages)
}

func namesOf(l []*pack) []string {
	var names []string
	for _, p := range l {
		names = append(names, p.name)
	}
	return names
}

// Package returns what is known of a package.
func (t *Table) Package(name string) (Package, api.Errno) {
	p, e := t.named(name)
	if e != api.OK {
		return Package{}, e
	}
	return t.known(p), api.OK
}

// known returns what is known of a package.
func (t *Table) known(p *pack) Package {
	x := Package{Name: p.name, Nicknames: slices.Clone(p.nicknames), Uses: namesOf(p.uses)}
	x.UsedBy = namesOf(slices.Collect(t.users(p)))
	for _, n := range p.present {
		if p.external[n] {
			x.External = append(x.External, n)
		} else {
			x.Internal = append(x.Internal, n)
		}
		if p.shadowing[n] {
			x.Shadowing = append(x.Shadowing, n)
		}
	}
	slices.Sort(x.Internal)
	slices.Sort(x.External)
	slices.Sort(x.Shadowing)
	return x
}
