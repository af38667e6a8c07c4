package tree

import (
	"cmp"
	"slices"

	"castellan/api"
	"castellan/dn"
)

// node is an entry, with those whose parent it is: by their keys, rising.
type node struct {
	id     int
	name   api.DN // as it was spelt, whatever its parent's is
	key    string // of the first RDN alone: no two with one parent have the same
	attrs  []api.Attr
	parent *node
	kids   []*node
}

// keyOf answers the key of the name that an RDN is alone. It is asked of RDNs of names that can be printed.
func keyOf(rdn api.RDN) string {
	text, _ := dn.Norm(api.DN{rdn})
	return text
}

// place answers where the kid of that key stands, or would stand, and whether it is there.
func (n *node) place(key string) (int, bool) {
	return slices.BinarySearchFunc(n.kids, key, func(kid *node, key string) int { return cmp.Compare(kid.key, key) })
}

// kid answers the kid of that key; nil, where there is none.
func (n *node) kid(key string) *node {
	at, ok := n.place(key)
	if !ok {
		return nil
	}
	return n.kids[at]
}

// take lets an entry be a kid of this one.
func (n *node) take(kid *node) {
	at, _ := n.place(kid.key)
	n.kids = slices.Insert(n.kids, at, kid)
	kid.parent = n
}

// lose lets a kid be none any more.
func (n *node) lose(kid *node) {
	at, _ := n.place(kid.key)
	n.kids = slices.Delete(n.kids, at, at+1)
	kid.parent = nil
}

// all answers the entry and all others that lie under it, in order.
func (n *node) all() []*node {
	list := []*node{n}
	for _, kid := range n.kids {
		list = append(list, kid.all()...)
	}
	return list
}

// moved answers the entry's name with other RDNs in the place of so many at its end.
func (n *node) moved(to api.DN, instead int) api.DN {
	return dn.Join(to, n.name[:len(n.name)-instead]...)
}

// movable tells whether the names of the entry, and of all that lie under it, could be printed, if its own were that one.
func (n *node) movable(to api.DN) bool {
	for _, lower := range n.all() {
		if !printable(lower.moved(to, len(n.name))) {
			return false
		}
	}
	return true
}

// printable tells whether a name can be printed.
func printable(d api.DN) bool {
	_, e := dn.Print(d)
	return e == api.OK
}

// ids answers the IDs of entries.
func ids(list []*node) []int {
	var out []int
	for _, n := range list {
		out = append(out, n.id)
	}
	return out
}

// copied answers the same attributes in memory of their own.
func copied(attrs []api.Attr) []api.Attr {
	out := slices.Clone(attrs)
	for i := range out {
		out[i].Values = slices.Clone(out[i].Values)
	}
	return out
}
