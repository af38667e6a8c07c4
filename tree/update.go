package tree

import (
	"castellan/api"
	"castellan/dn"
)

// Able answers what Do would answer, and changes nothing.
func (v *View) Able(u api.Update) int {
	if v == nil {
		return api.OperationsErr
	}
	switch u.Kind {
	case api.Added:
		return v.canAdd(u.DN)
	case api.Deleted:
		return v.canDelete(u.DN)
	case api.Changed:
		return v.canChange(u.DN)
	case api.Moved:
		return v.canMove(u.DN, u.To)
	}
	return api.OperationsErr
}

// canAdd tells what keeps an entry of that name from being added.
func (v *View) canAdd(d api.DN) int {
	switch {
	case !printable(d):
		return api.InvalidDN
	case v.find(d) != nil:
		return api.EntryExists
	case !v.own(d) && v.parent(d) == nil:
		return api.NoSuchObject
	case len(v.entries) >= api.MaxEntries:
		return api.Other
	}
	return api.Success
}

// canDelete tells what keeps the entry of that name from being deleted.
func (v *View) canDelete(d api.DN) int {
	n := v.find(d)
	switch {
	case n == nil:
		return api.NoSuchObject
	case len(n.kids) > 0:
		return api.NotOnNonLeaf
	}
	return api.Success
}

// canChange tells what keeps the entry of that name from having other attributes.
func (v *View) canChange(d api.DN) int {
	if v.find(d) == nil {
		return api.NoSuchObject
	}
	return api.Success
}

// canMove tells what keeps the entry of a name from having another one.
func (v *View) canMove(d, to api.DN) int {
	n := v.find(d)
	switch {
	case n == nil:
		return api.NoSuchObject
	case n == v.top:
		return api.Unwilling
	case !printable(to) || len(to) == 0:
		return api.InvalidDN
	case dn.Under(to[1:], d):
		return api.Unwilling
	case v.parent(to) == nil:
		return api.NoSuchObject
	}
	if other := v.find(to); other != nil && other != n {
		return api.EntryExists
	}
	if !n.movable(to) {
		return api.InvalidDN
	}
	return api.Success
}

// Do does an update, if it can be done, and answers a code.
func (t *Tree) Do(u api.Update) int {
	if t == nil {
		return api.OperationsErr
	}
	code := t.Able(u)
	if code != api.Success {
		return code
	}
	switch u.Kind {
	case api.Added:
		t.add(u.DN, u.Attrs)
	case api.Deleted:
		t.remove(t.find(u.DN))
	case api.Changed:
		t.find(u.DN).attrs = copied(u.Attrs)
	case api.Moved:
		n := t.find(u.DN)
		n.attrs = copied(u.Attrs)
		t.move(n, u.To)
	}
	return api.Success
}

// add puts an entry into the tree, with the ID that is next.
func (v *View) add(d api.DN, attrs []api.Attr) {
	v.last++
	n := &node{id: v.last, name: dn.Join(d), attrs: copied(attrs)}
	v.entries[n.id] = n
	v.hang(n)
}

// remove takes an entry out of the tree.
func (v *View) remove(n *node) {
	delete(v.entries, n.id)
	if n == v.top {
		v.top = nil
		return
	}
	n.parent.lose(n)
}

// move lets an entry have another name, and all that lie under it likewise. IDs stay, so that the map does.
func (v *View) move(n *node, to api.DN) {
	n.parent.lose(n)
	instead := len(n.name)
	for _, lower := range n.all() {
		lower.name = lower.moved(to, instead)
	}
	v.hang(n)
}

// hang puts an entry to its place by its name: beneath its parent, or at the top, where it is the suffix's own.
func (v *View) hang(n *node) {
	n.key = keyOf(n.name[0])
	parent := v.parent(n.name)
	if parent == nil {
		v.top = n
		return
	}
	parent.take(n)
}
