package oper

import (
	"slices"

	"castellan/api"
	"castellan/dn"
	"castellan/entry"
	"castellan/policy"
	"castellan/schema"
	"castellan/syntax"
)

// compare is a CompareReq.
func (r *request) compare() Answer {
	x, a := r.named(r.msg.DN)
	if a.Code != api.Success {
		return a
	}
	t, ok := schema.Find(r.Schema, r.msg.Attr)
	switch {
	case !ok:
		return result(api.UndefinedType)
	case !r.Book.May(r.who, x.name, r.msg.Attr, api.Compare):
		return result(api.Insufficient)
	}
	return result(r.held(x, t))
}

// held answers whether an entry has the value of that type against which it is held.
func (r *request) held(x target, t api.Type) int {
	values := entry.Get(x.attrs, t.Name)
	if len(values) == 0 {
		return api.NoSuchAttr
	}
	if isPassword(t.Name) {
		return comparison(matches(values, r.msg.Text))
	}
	if _, ok := syntax.Norm(t.Syntax, r.msg.Text); !ok {
		return api.InvalidSyntax
	}
	return comparison(entry.Has(r.Schema, x.attrs, t.Name, r.msg.Text))
}

// comparison answers the code of what is so, or isn't.
func comparison(so bool) int {
	if so {
		return api.CompareTrue
	}
	return api.CompareFalse
}

// version is the one of LDAP that is spoken.
const version = 3

// bind is a BindReq.
func (r *request) bind() Answer {
	switch {
	case r.msg.Version != version:
		return result(api.ProtocolErr)
	case r.msg.Sasl:
		return result(api.AuthMethod)
	}
	d, code := parsed(r.msg.DN)
	switch {
	case code != api.Success:
		return result(code)
	case len(d) == 0:
		return bound(r.msg.Text == "", nil)
	case r.msg.Text == "":
		return result(api.Unwilling)
	case same(d, r.Admin):
		return bound(r.msg.Text == r.Secret, d)
	}
	return r.try(d)
}

// bound answers that a name is bound, if the password was the right one.
func bound(right bool, d api.DN) Answer {
	if !right {
		return result(api.InvalidCreds)
	}
	return Answer{Who: dn.Join(d)}
}

// try answers what comes of a password that is tried of the entry of a name, whoever may see that.
func (r *request) try(d api.DN) Answer {
	x := r.at(r.View.Find(d))
	values := entry.Get(x.attrs, passwordAttr)
	if len(values) == 0 {
		return result(api.InvalidCreds)
	}
	ahead := policy.Read(x.attrs)
	behind, outcome := policy.Try(r.Policy, ahead, r.now, matches(values, r.msg.Text))
	a := bound(outcome == policy.Good, x.name)
	mods := policy.Mods(behind)
	if slices.EqualFunc(policy.Mods(ahead), mods, alike) {
		return a
	}
	// Also of a password that was wrong: the failure is kept.
	if attrs, code := r.stamped(x.attrs, mods); code == api.Success {
		a.Do, a.U = true, api.Update{Kind: api.Changed, DN: x.name, Attrs: attrs}
	}
	return a
}

// alike tells whether two modifications are the same.
func alike(a, b api.Mod) bool {
	return a.Op == b.Op && a.Name == b.Name && slices.Equal(a.Values, b.Values)
}
