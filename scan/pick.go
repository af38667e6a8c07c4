package scan

import (
	"slices"

	"castellan/api"
	"castellan/octet"
	"castellan/schema"
)

// The names by which all attributes of a sort are asked for: users', and the server's own.
const (
	users = "*"
	opers = "+"
)

// Pick answers those of the attributes that are asked for by names.
func Pick(s api.Schema, attrs []api.Attr, names []string, typesOnly bool) []api.Attr {
	return picker(s, names, typesOnly)(attrs)
}

// picker answers what picks attributes by names, which are read once for any number of entries.
func picker(s api.Schema, names []string, typesOnly bool) func([]api.Attr) []api.Attr {
	wanted := map[string]struct{}{}
	if len(names) == 0 {
		wanted[users] = struct{}{}
	}
	for _, name := range names {
		wanted[octet.Fold(name)] = struct{}{}
	}
	return func(attrs []api.Attr) []api.Attr {
		var out []api.Attr
		for _, a := range attrs {
			_, named := wanted[octet.Fold(a.Name)]
			_, sorted := wanted[sortOf(s, a.Name)]
			if named || sorted {
				out = append(out, picked(a, typesOnly))
			}
		}
		return out
	}
}

// sortOf answers the name by which all attributes of the sort of that one are asked for.
func sortOf(s api.Schema, name string) string {
	if t, _ := schema.Find(s, name); t.Oper {
		return opers
	}
	return users
}

// picked answers an attribute as it is told, in memory of its own.
func picked(a api.Attr, typesOnly bool) api.Attr {
	if typesOnly {
		return api.Attr{Name: a.Name}
	}
	return api.Attr{Name: a.Name, Values: slices.Clone(a.Values)}
}
