package server

import (
	"slices"

	"castellan/api"
	"castellan/dn"
	"castellan/octet"
	"castellan/oper"
	"castellan/page"
	"castellan/schema"
	"castellan/truth"
)

// subschema is the name of what tells of the schema: its key, and as it is told.
const subschema = "cn=subschema"

// own answers the responses to a search of the server itself, or of its schema, and whether it is such a one.
func (s *Server) own(m api.Msg) ([]api.Msg, bool) {
	if m.Scope != 0 {
		return nil, false
	}
	if m.DN == "" {
		return s.tell(m, s.itself(), "objectClass"), true
	}
	if key, e := dn.Key(m.DN); e != api.OK || key != subschema {
		return nil, false
	}
	m.DN = subschema
	return s.tell(m, s.types(), "cn", "objectClass"), true
}

// itself answers the attributes of the server itself.
func (s *Server) itself() []api.Attr {
	return []api.Attr{
		attr("namingContexts", text(s.store.Suffix())),
		attr("objectClass", "top"),
		attr("subschemaSubentry", subschema),
		attr("supportedControl", page.OID),
		attr("supportedExtension", oper.Passwd, oper.WhoAmI),
		attr("supportedLDAPVersion", "3"),
	}
}

// types answers the attributes of the schema.
func (s *Server) types() []api.Attr {
	types, classes := schema.Lines(s.env.Schema)
	return []api.Attr{
		attr("attributeTypes", types...),
		attr("cn", "subschema"),
		attr("objectClass", "top"),
		attr("objectClasses", classes...),
	}
}

// attr answers an attribute.
func attr(name string, values ...string) api.Attr { return api.Attr{Name: name, Values: values} }

// tell answers the responses to a search of such attributes, of which those alone are held against the filter that are
// named.
func (s *Server) tell(m api.Msg, attrs []api.Attr, held ...string) []api.Msg {
	done := result(m, api.Success, nil)
	if truth.Of(s.env.Schema, m.Filter, picked(attrs, held)) != truth.True {
		return []api.Msg{done}
	}
	e := api.Msg{ID: m.ID, Op: api.SearchEntry, DN: m.DN, Attrs: asked(m, attrs)}
	return []api.Msg{e, done}
}

// asked answers those of the attributes for which a search asks.
func asked(m api.Msg, attrs []api.Attr) []api.Attr {
	if len(m.Names) > 0 && !slices.Contains(m.Names, "*") && !slices.Contains(m.Names, "+") {
		attrs = picked(attrs, m.Names)
	}
	if m.TypesOnly {
		for i := range attrs {
			attrs[i].Values = nil
		}
	}
	return attrs
}

// picked answers those of the attributes that are named.
func picked(attrs []api.Attr, names []string) []api.Attr {
	var out []api.Attr
	for _, a := range attrs {
		if slices.ContainsFunc(names, func(name string) bool { return octet.Fold(name) == octet.Fold(a.Name) }) {
			out = append(out, a)
		}
	}
	return out
}
