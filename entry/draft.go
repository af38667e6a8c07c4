package entry

import (
	"maps"
	"slices"

	"castellan/api"
	"castellan/octet"
	"castellan/schema"
	"castellan/syntax"
)

// draft is attributes under work, by Fold of their names; none of them is without values.
type draft struct {
	schema api.Schema
	attrs  map[string]attr
}

// attr is an attribute under work: its type, and its values by their normal forms.
type attr struct {
	api.Type
	values map[string]value
}

// value is a value as it is spelt.
type value struct{ text string }

// begin answers a draft without attributes.
func begin(s api.Schema) draft { return draft{schema: s, attrs: map[string]attr{}} }

// empty answers an attribute of that type without values.
func empty(t api.Type) attr { return attr{Type: t, values: map[string]value{}} }

// of answers the attribute of that type, as it stands in the draft.
func (d draft) of(t api.Type) attr {
	a, ok := d.attrs[octet.Fold(t.Name)]
	if !ok {
		return empty(t)
	}
	return a
}

// take adds what an attribute of a list says.
func (d draft) take(a api.Attr) int {
	t, ok := schema.Find(d.schema, a.Name)
	switch {
	case !ok:
		return api.UndefinedType
	case len(a.Values) == 0:
		return api.Constraint
	}
	return d.add(d.of(t), a.Values)
}

// modify does a modification.
func (d draft) modify(m api.Mod) int {
	if m.Op != api.ModAdd && m.Op != api.ModDelete && m.Op != api.ModReplace {
		return api.ProtocolErr
	}
	t, ok := schema.Find(d.schema, m.Name)
	switch {
	case !ok:
		return api.UndefinedType
	case m.Op == api.ModReplace:
		return d.add(empty(t), m.Values)
	case m.Op == api.ModDelete && len(m.Values) == 0:
		return d.remove(d.of(t))
	case m.Op == api.ModDelete:
		return d.drop(d.of(t), m.Values)
	case len(m.Values) == 0:
		return api.ProtocolErr
	}
	return d.add(d.of(t), m.Values)
}

// add lets the attribute, with these values more, stand in the draft.
func (d draft) add(a attr, values []string) int {
	for _, text := range values {
		norm, ok := syntax.Norm(a.Syntax, text)
		if !ok {
			return api.InvalidSyntax
		}
		if _, there := a.values[norm]; there {
			return api.ValueExists
		}
		a.values[norm] = value{text}
	}
	if a.Single && len(a.values) > 1 {
		return api.Constraint
	}
	d.keep(a)
	return api.Success
}

// drop lets the attribute, without these values, stand in the draft.
func (d draft) drop(a attr, values []string) int {
	for _, text := range values {
		norm, ok := syntax.Norm(a.Syntax, text)
		if !ok {
			return api.InvalidSyntax
		}
		if _, there := a.values[norm]; !there {
			return api.NoSuchAttr
		}
		delete(a.values, norm)
	}
	d.keep(a)
	return api.Success
}

// remove takes the whole attribute out of the draft.
func (d draft) remove(a attr) int {
	if len(a.values) == 0 {
		return api.NoSuchAttr
	}
	d.keep(empty(a.Type))
	return api.Success
}

// keep lets the attribute stand in the draft, if it has values; else there is none of that type.
func (d draft) keep(a attr) {
	key := octet.Fold(a.Name)
	if len(a.values) == 0 {
		delete(d.attrs, key)
		return
	}
	d.attrs[key] = a
}

// form answers the attributes in form.
func (d draft) form() []api.Attr {
	var out []api.Attr
	for _, key := range slices.Sorted(maps.Keys(d.attrs)) {
		out = append(out, d.attrs[key].form())
	}
	return out
}

// form answers the attribute in form.
func (a attr) form() api.Attr {
	out := api.Attr{Name: a.Name}
	for _, norm := range slices.Sorted(maps.Keys(a.values)) {
		out.Values = append(out.Values, a.values[norm].text)
	}
	return out
}
