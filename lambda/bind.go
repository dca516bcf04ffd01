package lambda

import (
	"strconv"

	"commonform/api"
	"commonform/forms"
	"commonform/trees"
)

// Bind returns a form that binds the variables of a macro's lambda list.
func Bind(l List, from api.Form, body []api.Form, next int) (api.Form, int, api.Errno) {
	if _, e := Show(l); e != api.OK {
		return api.Form{}, 0, api.ErrForm
	}
	b := binder{next: next}
	b.list(l, b.named(from))
	let := append([]api.Form{trees.List(b.bindings...)}, body...)
	return trees.Copy(trees.Call("LET*", let...)), b.next, api.OK
}

// binder collects the bindings of a LET*.
type binder struct {
	next     int
	bindings []api.Form
}

// fresh returns a variable that is nobody else's.
func (b *binder) fresh() api.Form {
	v := forms.Symbol("%", strconv.Itoa(b.next))
	b.next++
	return v
}

func (b *binder) bind(v, value api.Form) {
	b.bindings = append(b.bindings, trees.List(v, value))
}

// named binds a fresh variable to a value.
func (b *binder) named(value api.Form) api.Form {
	v := b.fresh()
	b.bind(v, value)
	return v
}

func choose(test, a, b api.Form) api.Form { return trees.Call("IF", test, a, b) }

func isCons(v api.Form) api.Form { return trees.Call("CONSP", v) }

func quoted(x api.Form) api.Form { return trees.Call("QUOTE", x) }

// bad is what is called where a list does not fit.
func bad() api.Form { return trees.Call("%BAD-FORM") }

// list binds the variables of a list to the parts of what a variable has. All that can be wrong with this list itself is looked at ahead of the init forms.
func (b *binder) list(l List, whole api.Form) {
	tails, rest := b.tails(l, whole)
	b.end(l, whole, rest)
	seek := b.keys(l, rest)
	for _, item := range l.Items {
		switch item.Kind {
		case Required:
			b.item(item, trees.Call("CAR", tails[0]), api.Form{})
			tails = tails[1:]
		case Optional:
			b.item(item, choose(isCons(tails[0]), trees.Call("CAR", tails[0]), item.Init), isCons(tails[0]))
			tails = tails[1:]
		case Rest:
			b.item(item, rest, api.Form{})
		case Key:
			pair := b.named(trees.Call("FUNCALL", seek, quoted(item.Key), rest))
			b.item(item, choose(pair, second(pair), item.Init), isCons(pair))
		case Whole:
			b.item(item, whole, api.Form{})
		default:
			b.item(item, item.Init, api.Form{})
		}
	}
}

// item binds a variable, or those of a pattern, to a value, and then the one that tells whether there was an argument.
func (b *binder) item(item Item, value, given api.Form) {
	if item.Pattern != nil {
		b.list(*item.Pattern, b.named(value))
	} else {
		b.bind(item.Var, value)
	}
	if item.tells() {
		b.bind(item.Given, given)
	}
}

// tails binds a variable for what is left behind each required and optional parameter: it returns those that have the arguments as their first elements, and the last one.
func (b *binder) tails(l List, whole api.Form) ([]api.Form, api.Form) {
	var tails []api.Form
	at := whole
	for _, item := range l.Items {
		missing := bad()
		switch item.Kind {
		case Optional:
			missing = at
		case Required:
		default:
			continue
		}
		tails = append(tails, at)
		at = b.named(choose(isCons(at), trees.Call("CDR", at), missing))
	}
	return tails, at
}

// end looks whether a list ends as it must.
func (b *binder) end(l List, whole, rest api.Form) {
	wrong := choose(trees.Call("NULL", rest), forms.Nil(), bad())
	least, _ := Arity(l)
	switch {
	case takesRest(l) && least == 0:
		b.named(choose(isCons(whole), forms.Nil(), choose(trees.Call("NULL", whole), forms.Nil(), bad())))
	case !takesRest(l) && !l.Keys:
		b.named(wrong)
	}
}

// keys looks whether what is left has keys that may be there, and returns a variable with a function that finds one.
func (b *binder) keys(l List, rest api.Form) api.Form {
	if !l.Keys {
		return api.Form{}
	}
	at := b.fresh()
	ending := forms.Nil()
	if !takesRest(l) {
		ending = choose(trees.Call("NULL", at), forms.Nil(), bad())
	}
	whole := choose(isCons(trees.Call("CDR", at)), forms.Nil(), bad())
	b.named(overPairs(at, rest, whole, ending))
	seek := b.seeker()
	if l.Allow {
		return seek
	}
	allow := forms.Symbol(trees.Keyword, "ALLOW-OTHER-KEYS")
	known := []api.Form{allow}
	for _, item := range l.Items {
		if item.Kind == Key {
			known = append(known, item.Key)
		}
	}
	one := b.fresh()
	member := trees.Call("MEMBER", trees.Call("CAR", one), quoted(trees.List(known...)))
	all := overPairs(one, rest, choose(member, forms.Nil(), bad()), forms.Nil())
	b.named(choose(second(trees.Call("FUNCALL", seek, quoted(allow), rest)), forms.Nil(), all))
	return seek
}

// second is the value behind a key.
func second(pair api.Form) api.Form { return trees.Call("CAR", trees.Call("CDR", pair)) }

// overPairs goes over the pairs of a list with a variable, which names the tag, too: it evaluates a form for each of them, and one behind all.
func overPairs(at, list, each, ending api.Form) api.Form {
	on := trees.Call("SETQ", at, trees.Call("CDR", trees.Call("CDR", at)))
	again := trees.Call("PROGN", each, on, trees.Call("GO", at))
	return trees.Call("LET", trees.List(trees.List(at, list)), trees.Call("TAGBODY", at, choose(isCons(at), again, ending)))
}

// seeker binds a variable to a function that returns the pairs of a list from the first one with a key on.
func (b *binder) seeker() api.Form {
	seek, key, at := b.fresh(), b.fresh(), b.fresh()
	hit := trees.Call("IF", trees.Call("EQ", trees.Call("CAR", at), key), trees.Call("RETURN-FROM", key, at))
	on := trees.Call("SETQ", at, trees.Call("CDR", trees.Call("CDR", at)))
	again := trees.Call("PROGN", hit, on, trees.Call("GO", at))
	loop := trees.Call("TAGBODY", at, trees.Call("IF", isCons(at), again))
	function := trees.Call("LAMBDA", trees.List(key, at), trees.Call("BLOCK", key, loop))
	b.bind(seek, trees.Call("FUNCTION", function))
	return seek
}
