package tlv

import "castellan/api"

// place is where a list of nodes stands in memory.
type place struct {
	first *api.Node
	count int
}

// level is a list that is being copied: where it stands, its copy, and how many nodes of that have Kids of their own.
type level struct {
	from place
	list []api.Node
	done int
}

// copier copies lists of nodes: levels are the list that is being copied and those above it, the outermost first;
// above finds their copies. A node may be given that goes deeper than calls within calls can follow: so the levels are
// a list. It may even be given with a list that stands beneath itself, without end: so the copy of that does, too.
type copier struct {
	levels []level
	above  map[place][]api.Node
}

// copied answers a list of nodes in memory of its own, with all that is beneath them.
func copied(list []api.Node) []api.Node {
	c := copier{above: map[place][]api.Node{}}
	out := c.enter(list)
	for len(c.levels) > 0 {
		c.step()
	}
	return out
}

// enter answers the copy of a list, the Kids of whose nodes are still to be copied.
func (c *copier) enter(list []api.Node) []api.Node {
	if len(list) == 0 {
		return nil
	}
	from := place{&list[0], len(list)}
	if out, ok := c.above[from]; ok {
		return out
	}
	out := make([]api.Node, len(list))
	copy(out, list)
	c.above[from] = out
	c.levels = append(c.levels, level{from: from, list: out})
	return out
}

// step copies the Kids of one node of the innermost list, or leaves that, where all have their own.
func (c *copier) step() {
	last := len(c.levels) - 1
	inner := &c.levels[last]
	if inner.done == len(inner.list) {
		delete(c.above, inner.from)
		c.levels = c.levels[:last]
		return
	}
	node := &inner.list[inner.done]
	inner.done++
	node.Kids = c.enter(node.Kids)
}
