package server

import (
	"slices"

	"castellan/acl"
	"castellan/api"
	"castellan/dn"
	"castellan/index"
	"castellan/policy"
	"castellan/schema"
)

// setup is what of a configuration has to be read.
type setup struct {
	suffix, admin api.DN
	book          *acl.Book
	index         *index.Index // without entries
}

// Check tells what is wrong with a configuration first.
func Check(c api.Config) api.Errno {
	_, e := read(c)
	return e
}

// read answers what is read of a configuration, or what is wrong with it first.
func read(c api.Config) (setup, api.Errno) {
	x, e := readNames(c)
	if e != api.OK {
		return setup{}, e
	}
	x.book, e = acl.New(c.Schema, x.admin, c.Rules...)
	if e != api.OK {
		return setup{}, e
	}
	if e := policy.Check(c.Policy); e != api.OK {
		return setup{}, e
	}
	x.index, e = index.New(c.Schema, c.Indexed...)
	switch {
	case e != api.OK:
		return setup{}, e
	case c.Wide < 0:
		return setup{}, api.ErrValue
	}
	return x, api.OK
}

// readNames answers the names of a configuration whose schema may be, or what is wrong first.
func readNames(c api.Config) (setup, api.Errno) {
	if e := schema.Check(c.Schema); e != api.OK {
		return setup{}, e
	}
	suffix, e := dn.Parse(c.Suffix)
	switch {
	case e != api.OK:
		return setup{}, e
	case len(suffix) == 0:
		return setup{}, api.ErrArg
	}
	admin, e := dn.Parse(c.Admin)
	if e != api.OK {
		return setup{}, e
	}
	return setup{suffix: suffix, admin: admin}, api.OK
}

// copied answers the same schema in memory of its own.
func copied(s api.Schema) api.Schema {
	out := api.Schema{Types: slices.Clone(s.Types), Classes: slices.Clone(s.Classes)}
	for i := range out.Classes {
		c := &out.Classes[i]
		c.Must, c.May = slices.Clone(c.Must), slices.Clone(c.May)
	}
	return out
}
