package collect

import (
	"commonform/api"
	"commonform/heap"
)

// Watch waits for the end of an object.
func (c *Collector) Watch(w heap.Word, id int) api.Errno {
	switch {
	case c.missing():
		return api.ErrArg
	case c.h.Place(w) < 0:
		return heap.ErrWord
	case w == heap.Nil:
		return api.ErrArg
	}
	c.watchers = append(c.watchers, watcher{object: w, id: id})
	return api.OK
}

// tell ends the watchers of objects that are gone. Those of kept ones, which are here in the order of their new places, wait on.
func (c *Collector) tell(kept []heap.Word) {
	if len(c.watchers) == 0 {
		return
	}
	moved := map[heap.Word]heap.Word{}
	objects := c.h.Objects()[1:]
	for i, w := range kept {
		moved[w] = objects[i]
	}
	var waiting []watcher
	for _, x := range c.watchers {
		if to, ok := moved[x.object]; ok {
			waiting = append(waiting, watcher{object: to, id: x.id})
		} else {
			c.ended = append(c.ended, x.id)
		}
	}
	c.watchers = waiting
}

// Ended returns the watchers whose objects are gone, those since it was called last.
func (c *Collector) Ended() []int {
	if c == nil {
		return nil
	}
	ended := c.ended
	c.ended = nil
	return ended
}

// Watched returns the watchers that wait.
func (c *Collector) Watched() []int {
	if c == nil {
		return nil
	}
	var ids []int
	for _, x := range c.watchers {
		ids = append(ids, x.id)
	}
	return ids
}
