package oper

import (
	"slices"

	"castellan/api"
	"castellan/check"
	"castellan/dn"
	"castellan/entry"
)

// add is an AddReq.
func (r *request) add() Answer {
	d, code := parsed(r.msg.DN)
	if code != api.Success {
		return result(code)
	}
	if a := r.mayAdd(d); a.Code != api.Success {
		return a
	}
	attrs, code := r.made()
	if code != api.Success {
		return result(code)
	}
	if code := check.Fits(r.Schema, d[0], attrs); code != api.Success {
		return result(code)
	}
	return r.able(api.Update{Kind: api.Added, DN: d, Attrs: attrs})
}

// mayAdd tells what keeps somebody from adding what is told under a name that has an RDN, then.
func (r *request) mayAdd(d api.DN) Answer {
	if len(d) == 0 {
		return result(api.NoSuchObject)
	}
	if !r.top(d) {
		parent, a := r.seen(d[1:])
		if a.Code != api.Success {
			return a
		}
		if !r.mayWrite(parent.name) {
			return result(api.Insufficient)
		}
	}
	var names []string
	for _, attr := range r.msg.Attrs {
		names = append(names, attr.Name)
	}
	return result(r.writable(d, names))
}

// made answers the attributes of the entry that is to be added.
func (r *request) made() ([]api.Attr, int) {
	list, secret := slices.Clone(r.msg.Attrs), false
	for i, a := range list {
		if !isPassword(a.Name) {
			continue
		}
		values, code := r.salted(a.Values)
		if code != api.Success {
			return nil, code
		}
		list[i].Values, secret = values, true
	}
	attrs, code := entry.Make(r.Schema, list...)
	if code != api.Success {
		return nil, code
	}
	created := []api.Mod{r.stamp(createdAttr)}
	return r.stamped(attrs, append(created, r.stamps(secret)...))
}

// modify is a ModifyReq.
func (r *request) modify() Answer {
	x, a := r.named(r.msg.DN)
	if a.Code != api.Success {
		return a
	}
	var names []string
	for _, m := range r.msg.Mods {
		names = append(names, m.Name)
	}
	if code := r.writable(x.name, names); code != api.Success {
		return result(code)
	}
	mods, code := r.kept()
	if code != api.Success {
		return result(code)
	}
	return r.changed(x, mods)
}

// kept answers the modifications that are told, with passwords as they are kept. What deletes them names them so itself.
func (r *request) kept() ([]api.Mod, int) {
	mods := slices.Clone(r.msg.Mods)
	for i, m := range mods {
		if !isPassword(m.Name) || m.Op == api.ModDelete {
			continue
		}
		values, code := r.salted(m.Values)
		if code != api.Success {
			return nil, code
		}
		mods[i].Values = values
	}
	return mods, api.Success
}

// changed answers the update by which an entry is modified.
func (r *request) changed(x target, mods []api.Mod) Answer {
	attrs, code := entry.Apply(r.Schema, x.attrs, mods...)
	if code != api.Success {
		return result(code)
	}
	secret := slices.ContainsFunc(mods, func(m api.Mod) bool { return isPassword(m.Name) })
	attrs, code = r.stamped(attrs, r.stamps(secret))
	if code != api.Success {
		return result(code)
	}
	if code := check.Changes(r.Schema, x.attrs, attrs); code != api.Success {
		return result(code)
	}
	switch code := check.Fits(r.Schema, x.name[0], attrs); code {
	case api.Success:
		return r.update(api.Update{Kind: api.Changed, DN: x.name, Attrs: attrs})
	case api.Naming:
		return result(api.NotOnRDN)
	default:
		return result(code)
	}
}

// remove is a DeleteReq.
func (r *request) remove() Answer {
	x, a := r.named(r.msg.DN)
	switch {
	case a.Code != api.Success:
		return a
	case !r.mayWrite(x.name):
		return result(api.Insufficient)
	}
	return r.able(api.Update{Kind: api.Deleted, DN: x.name})
}

// move is a MoveReq.
func (r *request) move() Answer {
	x, a := r.named(r.msg.DN)
	if a.Code != api.Success {
		return a
	}
	rdn, ok := one(r.msg.Rdn)
	if !ok {
		return result(api.InvalidDN)
	}
	parent, a := r.newParent(x)
	if a.Code != api.Success {
		return a
	}
	if code := r.mayMove(x, parent, rdn); code != api.Success {
		return result(code)
	}
	attrs, code := r.renamed(x, rdn)
	if code != api.Success {
		return result(code)
	}
	return r.able(api.Update{Kind: api.Moved, DN: x.name, To: dn.Join(parent.name, rdn), Attrs: attrs})
}

// one answers the RDN that a text is the name of, and whether it is that of one.
func one(text string) (api.RDN, bool) {
	d, code := parsed(text)
	if code != api.Success || len(d) != 1 {
		return nil, false
	}
	return d[0], true
}

// newParent answers the entry that is to be the parent of one that is moved.
func (r *request) newParent(x target) (target, Answer) {
	var sup api.DN
	if r.msg.HasSup {
		d, code := parsed(r.msg.Sup)
		if code != api.Success {
			return target{}, result(code)
		}
		sup = d
	}
	switch {
	case r.top(x.name):
		return target{}, result(api.Unwilling)
	case !r.msg.HasSup:
		sup = x.name[1:]
	}
	return r.seen(sup)
}

// mayMove tells what keeps somebody from moving an entry beneath another one, with that RDN.
func (r *request) mayMove(x, parent target, rdn api.RDN) int {
	if !r.mayWrite(x.name) || !r.mayWrite(parent.name) {
		return api.Insufficient
	}
	var names []string
	for _, a := range rdn {
		names = append(names, a.Type)
	}
	return r.common(names)
}

// renamed answers the attributes of an entry that gets another RDN.
func (r *request) renamed(x target, rdn api.RDN) ([]api.Attr, int) {
	attrs, code := check.Renamed(r.Schema, x.attrs, x.name[0], rdn, r.msg.DeleteOld)
	if code != api.Success {
		return nil, code
	}
	attrs, code = r.stamped(attrs, r.stamps(false))
	if code != api.Success {
		return nil, code
	}
	return attrs, check.Fits(r.Schema, rdn, attrs)
}
