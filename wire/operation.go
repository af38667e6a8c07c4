package wire

import "castellan/api"

// The tags of parts.
const (
	tagTruth    = 0x01
	tagNumber   = 0x02
	tagText     = 0x04
	tagEnum     = 0x0a
	tagSeq      = 0x30
	tagSet      = 0x31
	tagControls = 0xa0
)

// An operation's tag is its number and plainOp, where its bytes are no elements, else builtOp; numberBits are those of
// the number.
const (
	plainOp    = 0x40
	builtOp    = 0x60
	numberBits = 0x1f
)

// highest is the highest of the numbers that have no other bounds.
const highest = 2147483647

// id is the shape of a message's ID.
func id() shape[int] { return number(tagNumber, 0, highest) }

// opTag answers an operation's tag.
func opTag(op int) int {
	switch op {
	case api.UnbindReq, api.DeleteReq, api.AbandonReq:
		return plainOp | op
	}
	return builtOp | op
}

// operation answers the shape of what the messages of an operation have, and whether there is that operation.
func operation(op int) (shape[api.Msg], bool) {
	tag := opTag(op)
	switch op {
	case api.BindReq:
		return bindReq(tag), true
	case api.UnbindReq:
		return field(func(*api.Msg) *struct{} { return new(struct{}) }, nothing(tag)), true
	case api.SearchReq:
		return searchReq(tag), true
	case api.SearchEntry:
		return entry(tag, values()), true
	case api.ModifyReq:
		return modifyReq(tag), true
	case api.AddReq:
		return entry(tag, such(values(), func(list *[]string) bool { return len(*list) > 0 })), true
	case api.DeleteReq:
		return name(tag), true
	case api.MoveReq:
		return moveReq(tag), true
	case api.CompareReq:
		return compareReq(tag), true
	case api.AbandonReq:
		return field(func(m *api.Msg) *int { return &m.Target }, number(tag, 0, highest)), true
	case api.ExtendedReq:
		return seq(tag, oid(0x80), value(0x81)), true
	case api.BindRes, api.SearchDone, api.ModifyRes, api.AddRes, api.DeleteRes, api.MoveRes, api.CompareRes:
		return result(tag), true
	case api.ExtendedRes:
		return result(tag, unless(func(m *api.Msg) bool { return m.OID == "" }, oid(0x8a)), value(0x8b)), true
	}
	return shape[api.Msg]{}, false
}

// name is the shape of DN.
func name(tag int) shape[api.Msg] {
	return field(func(m *api.Msg) *string { return &m.DN }, text(tag))
}

// note is the shape of Text.
func note(tag int) shape[api.Msg] {
	return field(func(m *api.Msg) *string { return &m.Text }, text(tag))
}

// oid is the shape of OID.
func oid(tag int) shape[api.Msg] {
	return field(func(m *api.Msg) *string { return &m.OID }, text(tag))
}

// value is the shape of Value, which may lack.
func value(tag int) shape[api.Msg] {
	return maybe(func(m *api.Msg) *bool { return &m.Has },
		field(func(m *api.Msg) *string { return &m.Value }, text(tag)))
}

// bindReq is the shape of a BindReq.
func bindReq(tag int) shape[api.Msg] {
	sasl := seq(0xa3, field(func(m *api.Msg) *string { return &m.Mech }, text(tagText)), value(tagText))
	return seq(tag,
		field(func(m *api.Msg) *int { return &m.Version }, number(tagNumber, 1, 127)),
		name(tagText),
		either(func(m *api.Msg) *bool { return &m.Sasl }, sasl, note(0x80)))
}

// searchReq is the shape of a SearchReq.
func searchReq(tag int) shape[api.Msg] {
	return seq(tag,
		name(tagText),
		field(func(m *api.Msg) *int { return &m.Scope }, number(tagEnum, 0, 2)),
		field(func(m *api.Msg) *int { return &m.Deref }, number(tagEnum, 0, 3)),
		field(func(m *api.Msg) *int { return &m.Size }, number(tagNumber, 0, highest)),
		field(func(m *api.Msg) *int { return &m.Time }, number(tagNumber, 0, highest)),
		field(func(m *api.Msg) *bool { return &m.TypesOnly }, truth(tagTruth)),
		field(func(m *api.Msg) *api.Filter { return &m.Filter }, filter()),
		field(func(m *api.Msg) *[]string { return &m.Names }, list(tagSeq, text(tagText))))
}

// values is the shape of an attribute's values.
func values() shape[[]string] { return list(tagSet, text(tagText)) }

// entry is the shape of DN and Attrs, with values of that shape.
func entry(tag int, values shape[[]string]) shape[api.Msg] {
	attr := seq(tagSeq,
		field(func(a *api.Attr) *string { return &a.Name }, text(tagText)),
		field(func(a *api.Attr) *[]string { return &a.Values }, values))
	return seq(tag,
		name(tagText),
		field(func(m *api.Msg) *[]api.Attr { return &m.Attrs }, list(tagSeq, attr)))
}

// modifyReq is the shape of a ModifyReq.
func modifyReq(tag int) shape[api.Msg] {
	attr := seq(tagSeq,
		field(func(m *api.Mod) *string { return &m.Name }, text(tagText)),
		field(func(m *api.Mod) *[]string { return &m.Values }, values()))
	mod := seq(tagSeq,
		field(func(m *api.Mod) *int { return &m.Op }, number(tagEnum, 0, 2)),
		attr)
	return seq(tag,
		name(tagText),
		field(func(m *api.Msg) *[]api.Mod { return &m.Mods }, list(tagSeq, mod)))
}

// moveReq is the shape of a MoveReq.
func moveReq(tag int) shape[api.Msg] {
	return seq(tag,
		name(tagText),
		field(func(m *api.Msg) *string { return &m.Rdn }, text(tagText)),
		field(func(m *api.Msg) *bool { return &m.DeleteOld }, truth(tagTruth)),
		maybe(func(m *api.Msg) *bool { return &m.HasSup },
			field(func(m *api.Msg) *string { return &m.Sup }, text(0x80))))
}

// compareReq is the shape of a CompareReq.
func compareReq(tag int) shape[api.Msg] {
	return seq(tag,
		name(tagText),
		seq(tagSeq,
			field(func(m *api.Msg) *string { return &m.Attr }, text(tagText)),
			note(tagText)))
}

// result is the shape of a result, with more parts behind it.
func result(tag int, more ...shape[api.Msg]) shape[api.Msg] {
	parts := []shape[api.Msg]{
		field(func(m *api.Msg) *int { return &m.Code }, number(tagEnum, 0, highest)),
		field(func(m *api.Msg) *string { return &m.Matched }, text(tagText)),
		note(tagText),
	}
	return seq(tag, append(parts, more...)...)
}

// controls is the shape of a message's controls.
func controls() shape[[]api.Control] {
	critical := field(func(c *api.Control) *bool { return &c.Critical }, truth(tagTruth))
	value := field(func(c *api.Control) *string { return &c.Value }, text(tagText))
	control := seq(tagSeq,
		field(func(c *api.Control) *string { return &c.OID }, text(tagText)),
		unless(func(c *api.Control) bool { return !c.Critical }, critical),
		maybe(func(c *api.Control) *bool { return &c.Has }, value))
	return list(tagControls, control)
}
