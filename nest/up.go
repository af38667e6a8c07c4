package nest

// found is what the things of a list come to, as far as they are told.
type found[V any] struct {
	values []V
	whole  bool
}

// stage is a list that is gone through: where it stands, and what its things come to so far.
type stage[T, V any] struct {
	from   place[T]
	list   []T
	values []V
}

// climber tells what things come to: stages are the list that is gone through and those above it, the outermost first;
// known finds these, and all lists that were gone through: one that stands in many places is gone through once.
type climber[T, V any] struct {
	below  func(T) []T
	comes  func(T, []V) V
	round  V
	stages []stage[T, V]
	known  map[place[T]]found[V]
}

// Up answers what a thing comes to: what comes answers of it and of what those come to that below tells beneath it, one
// behind the other. One beneath which its own list stands again, without end, comes to round.
func Up[T, V any](thing T, below func(T) []T, comes func(T, []V) V, round V) V {
	c := climber[T, V]{below: below, comes: comes, round: round, known: map[place[T]]found[V]{}}
	first := []T{thing}
	c.enter(first)
	for len(c.stages) > 0 {
		c.step()
	}
	return c.known[placeOf(first)].values[0]
}

// placeOf tells where a list stands that has a thing at least.
func placeOf[T any](list []T) place[T] { return place[T]{&list[0], len(list)} }

// enter begins a list that wasn't gone through.
func (c *climber[T, V]) enter(list []T) {
	from := placeOf(list)
	c.known[from] = found[V]{}
	c.stages = append(c.stages, stage[T, V]{from: from, list: list})
}

// step goes on by one thing of the innermost list, or begins the list beneath that, or leaves the innermost one.
func (c *climber[T, V]) step() {
	last := len(c.stages) - 1
	inner := &c.stages[last]
	if len(inner.values) == len(inner.list) {
		c.known[inner.from] = found[V]{values: inner.values, whole: true}
		c.stages = c.stages[:last]
		return
	}
	thing := inner.list[len(inner.values)]
	list := c.below(thing)
	if len(list) == 0 {
		inner.values = append(inner.values, c.comes(thing, nil))
		return
	}
	beneath, met := c.known[placeOf(list)]
	switch {
	case !met:
		c.enter(list)
	case beneath.whole:
		inner.values = append(inner.values, c.comes(thing, beneath.values))
	default:
		inner.values = append(inner.values, c.round)
	}
}
