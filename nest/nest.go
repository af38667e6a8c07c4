// Package nest copies lists of things that have lists of such things of their own, to whatever depth.
package nest

// place is where a list stands in memory.
type place[T any] struct {
	first *T
	count int
}

// level is a list that is being copied: where it stands, its copy, and of how many things of that the lists are copied.
type level[T any] struct {
	from place[T]
	list []T
	done int
}

// copier copies lists: levels are the list that is being copied and those above it, the outermost first; above finds
// their copies. A thing may be given that goes deeper than calls within calls can follow: so the levels are a list.
// It may even be given with a list that stands beneath itself, without end: so the copy of that does, too.
type copier[T any] struct {
	copied func(T) T
	below  func(*T) *[]T
	levels []level[T]
	above  map[place[T]][]T
}

// Copy answers a list in memory of its own, with all that is beneath its things: each of them is what copied answers
// of it, and below tells where such a one keeps its list.
func Copy[T any](list []T, copied func(T) T, below func(*T) *[]T) []T {
	c := copier[T]{copied: copied, below: below, above: map[place[T]][]T{}}
	out := c.enter(list)
	for len(c.levels) > 0 {
		c.step()
	}
	return out
}

// enter answers the copy of a list; the lists of its things are still to be copied.
func (c *copier[T]) enter(list []T) []T {
	if len(list) == 0 {
		return nil
	}
	from := place[T]{&list[0], len(list)}
	if out, ok := c.above[from]; ok {
		return out
	}
	out := make([]T, len(list))
	for i, thing := range list {
		out[i] = c.copied(thing)
	}
	c.above[from] = out
	c.levels = append(c.levels, level[T]{from: from, list: out})
	return out
}

// step copies the list of one thing of the innermost list, or leaves that, where all have their own.
func (c *copier[T]) step() {
	last := len(c.levels) - 1
	inner := &c.levels[last]
	if inner.done == len(inner.list) {
		delete(c.above, inner.from)
		c.levels = c.levels[:last]
		return
	}
	list := c.below(&inner.list[inner.done])
	inner.done++
	*list = c.enter(*list)
}
