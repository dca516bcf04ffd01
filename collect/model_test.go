package collect_test

import (
	"maps"
	"math/rand"
	"slices"
	"testing"

	"commonform/api"
	"commonform/collect"
	"commonform/heap"
)

// picture is all that a heap has: what each object is, by its word.
type picture struct {
	objects []heap.Word
	kinds   map[heap.Word]int
	bytes   map[heap.Word]string
	fields  map[heap.Word][]heap.Word // none of those with bytes
	roots   map[int]heap.Word
	old     int
}

func takePicture(h *heap.Heap) picture {
	p := picture{objects: h.Objects(), kinds: map[heap.Word]int{}, bytes: map[heap.Word]string{}, fields: map[heap.Word][]heap.Word{}, roots: map[int]heap.Word{}, old: h.Old()}
	for _, w := range p.objects {
		p.kinds[w] = h.Kind(w)
		if s, e := h.Bytes(w); e == api.OK {
			p.bytes[w] = s
			continue
		}
		for i := range h.Len(w) {
			x, _ := h.Get(w, i)
			p.fields[w] = append(p.fields[w], x)
		}
	}
	for _, root := range h.Roots() {
		p.roots[root], _ = h.At(root)
	}
	return p
}

func (p picture) isOld(w heap.Word) bool { return int(w>>3) < p.old }

// isPair reports whether an object is an ephemeron with a key and a value.
func (p picture) isPair(w heap.Word) bool {
	return p.kinds[w] == heap.KindEphemeron && len(p.fields[w]) >= 2
}

// reached returns what is reached, straight from its definition: as long as something is added, all is asked again.
func (p picture) reached(minor bool) map[heap.Word]bool {
	reached := map[heap.Word]bool{heap.Nil: true}
	for _, w := range p.roots {
		if w.IsRef() {
			reached[w] = true
		}
	}
	for _, w := range p.objects {
		if minor && p.isOld(w) {
			reached[w] = true
		}
	}
	for before := -1; before < len(reached); {
		before = len(reached)
		for _, w := range slices.Collect(maps.Keys(reached)) {
			for i, x := range p.fields[w] {
				strong := p.kinds[w] != heap.KindWeak
				if p.isPair(w) {
					key := p.fields[w][0]
					strong = i >= 2 || i == 1 && (!key.IsRef() || reached[key])
				}
				if strong && x.IsRef() {
					reached[x] = true
				}
			}
		}
	}
	return reached
}

// after returns the picture behind a collection, in words of the one ahead of it, and how many words are lost.
func (p picture) after(reached, aged map[heap.Word]bool) (old, young []heap.Word, fields map[heap.Word][]heap.Word, lost int) {
	var promoted []heap.Word
	fields = map[heap.Word][]heap.Word{}
	left := func(w heap.Word) heap.Word {
		if w.IsRef() && !reached[w] {
			return heap.Unbound
		}
		return w
	}
	for _, w := range p.objects {
		if !reached[w] {
			continue
		}
		for _, x := range p.fields[w] {
			fields[w] = append(fields[w], left(x))
		}
		weak := p.kinds[w] == heap.KindWeak && len(p.fields[w]) > 0
		if (weak || p.isPair(w)) && fields[w][0] != p.fields[w][0] {
			lost++
			if p.isPair(w) {
				fields[w][1] = heap.Unbound
			}
		}
		switch {
		case p.isOld(w):
			old = append(old, w)
		case aged[w]:
			promoted = append(promoted, w)
		default:
			young = append(young, w)
		}
	}
	return append(old, promoted...), young, fields, lost
}

// size returns how many words some objects take.
func (p picture) size(objects []heap.Word) int {
	n := 0
	for _, w := range objects {
		n += 1 + len(p.fields[w]) + (len(p.bytes[w])+7)/8
	}
	return n
}

// run is a run of any calls on a collector, with what is to be known of it.
type run struct {
	t        *testing.T
	r        *rand.Rand
	h        *heap.Heap
	c        *collect.Collector
	aged     map[heap.Word]bool
	watchers []watcher
	ended    []int
}

type watcher struct {
	w  heap.Word
	id int
}

// check compares a collection of a picture with what the definition says.
func (x *run) check(p picture, major bool, got collect.Report) {
	t := x.t
	old, young, fields, lost := p.after(p.reached(!major), x.aged)
	all := slices.Concat(old, young)
	want := collect.Report{Major: major, Before: p.size(p.objects), After: p.size(all), Lost: lost}
	moved := map[heap.Word]heap.Word{}
	place := 0
	for i, w := range all {
		moved[w] = ref(place)
		place += p.size(words(w))
		if i < len(old) && !p.isOld(w) {
			want.Promoted++
		}
	}
	equal(t, "the report", got, want)
	to := func(w heap.Word) heap.Word {
		if w.IsRef() {
			return moved[w]
		}
		return w
	}
	now := takePicture(x.h)
	equal(t, "Old and all objects", []any{now.old, len(now.objects)}, []any{p.size(old), len(all)})
	for _, w := range all {
		var l []heap.Word
		for _, f := range fields[w] {
			l = append(l, to(f))
		}
		there := moved[w]
		equal(t, "an object", []any{now.kinds[there], now.bytes[there], now.fields[there]}, []any{p.kinds[w], p.bytes[w], l})
	}
	for root, w := range p.roots {
		equal(t, "a root", now.roots[root], to(w))
	}
	x.tell(moved)
	x.aged = map[heap.Word]bool{}
	for _, w := range young {
		x.aged[moved[w]] = true
	}
}

// tell ends the watchers of objects that were not moved.
func (x *run) tell(moved map[heap.Word]heap.Word) {
	var left []watcher
	for _, one := range x.watchers {
		if to, ok := moved[one.w]; ok {
			left = append(left, watcher{to, one.id})
		} else {
			x.ended = append(x.ended, one.id)
		}
	}
	x.watchers = left
}

// any returns any object.
func (x *run) any() heap.Word {
	all := x.h.Objects()
	return all[x.r.Intn(len(all))]
}

func (x *run) make() {
	kinds := [...]int{heap.KindCons, heap.KindWeak, heap.KindEphemeron, heap.KindEphemeron, heap.KindVector}
	kind := kinds[x.r.Intn(len(kinds))]
	if x.r.Intn(8) == 0 {
		x.h.Raw(kind, "bytes, bytes, bytes"[:x.r.Intn(20)])
	} else {
		x.h.New(kind, x.r.Intn(5))
	}
}

// set changes a field, or nothing.
func (x *run) set() {
	to := words(x.any(), x.any(), x.any(), heap.Unbound, 40, heap.Nil)[x.r.Intn(6)]
	x.h.Set(x.any(), x.r.Intn(4), to)
}

func (x *run) root() {
	roots := x.h.Roots()
	if len(roots) > x.r.Intn(6) {
		x.h.Drop(roots[x.r.Intn(len(roots))])
	} else {
		x.h.Root(x.any())
	}
}

func (x *run) watch() {
	w, id := x.any(), x.r.Intn(10)
	if x.c.Watch(w, id) == api.OK {
		x.watchers = append(x.watchers, watcher{w, id})
	}
}

func (x *run) minor() {
	p := takePicture(x.h)
	r, e := x.c.Minor()
	fails(x.t, "Minor", e, api.OK)
	x.check(p, false, r)
}

func (x *run) major() {
	p := takePicture(x.h)
	var live []heap.Word
	reached := p.reached(false)
	for _, w := range p.objects {
		if reached[w] {
			live = append(live, w)
		}
	}
	equal(x.t, "Live", x.c.Live(), live)
	r, e := x.c.Major()
	fails(x.t, "Major", e, api.OK)
	x.check(p, true, r)
}

func (x *run) end() {
	equal(x.t, "Ended", x.c.Ended(), x.ended)
	x.ended = nil
}

// keep lays all objects anew, as somebody else: without watchers, of which nothing is said then.
func (x *run) keep() {
	if len(x.watchers) > 0 {
		return
	}
	all := x.h.Objects()[1:]
	cut := x.r.Intn(len(all) + 1)
	fails(x.t, "Keep", x.h.Keep(all[:cut], all[cut:]), api.OK)
	x.aged = nil
}

// P16.1, P16.3, P16.4, P16.5: any calls, against the definitions.
func TestModel(t *testing.T) {
	r := rand.New(rand.NewSource(161))
	for range 600 {
		h, c := newCollector(t, 1000, 100)
		x := &run{t: t, r: r, h: h, c: c}
		calls := []func(){x.make, x.make, x.make, x.make, x.set, x.set, x.set, x.set, x.set, x.root, x.root, x.watch, x.minor, x.major, x.end, x.keep}
		for i := range 80 {
			call := r.Intn(len(calls))
			calls[call]()
			var ids []int
			for _, one := range x.watchers {
				ids = append(ids, one.id)
			}
			equal(t, "Watched", c.Watched(), ids)
			if t.Failed() {
				t.Fatalf("behind step %d, the call %d", i, call)
			}
		}
	}
}
