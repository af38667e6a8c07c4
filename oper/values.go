package oper

import (
	"slices"
	"strconv"

	"castellan/api"
	"castellan/entry"
	"castellan/octet"
	"castellan/pass"
	"castellan/policy"
	"castellan/schema"
)

// The attributes that have passwords, and those that tell when an entry came, and was changed.
const (
	passwordAttr = "userPassword"
	createdAttr  = "createdAt"
	changedAttr  = "changedAt"
)

// isPassword tells whether that is the name of a password attribute.
func isPassword(name string) bool { return octet.Fold(name) == octet.Fold(passwordAttr) }

// salted answers values as they are kept: those that aren't stored passwords are made such.
func (r *request) salted(values []string) ([]string, int) {
	var out []string
	for _, value := range values {
		if !pass.Stored(value) {
			made, e := pass.Make(value, r.salt)
			if e != api.OK {
				return nil, api.Constraint
			}
			value = made
			r.salt++
			r.salts++
		}
		out = append(out, value)
	}
	return out, api.Success
}

// matches tells whether a password is the one that one of the values was made of.
func matches(values []string, password string) bool {
	return slices.ContainsFunc(values, func(value string) bool { return pass.Check(value, password) })
}

// stamped answers what those of the modifications make of attributes whose types the schema has.
func (r *request) stamped(attrs []api.Attr, mods []api.Mod) ([]api.Attr, int) {
	unknown := func(m api.Mod) bool {
		_, ok := schema.Find(r.Schema, m.Name)
		return !ok
	}
	return entry.Apply(r.Schema, attrs, slices.DeleteFunc(slices.Clone(mods), unknown)...)
}

// stamps answers the modifications by which an entry tells of a change; a password that is new is one that nobody
// failed to give so far.
func (r *request) stamps(renewed bool) []api.Mod {
	mods := []api.Mod{r.stamp(changedAttr)}
	if renewed {
		mods = append(mods, policy.Mods(policy.New(r.now))...)
	}
	return mods
}

// stamp answers the modification by which an attribute has the time.
func (r *request) stamp(name string) api.Mod { return replace(name, strconv.FormatInt(r.now, 10)) }

// replace answers the modification by which an attribute has just these values.
func replace(name string, values ...string) api.Mod {
	return api.Mod{Op: api.ModReplace, Name: name, Values: slices.Clone(values)}
}
