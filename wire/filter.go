package wire

import (
	"castellan/api"
	"castellan/filt"
	"castellan/tlv"
)

// A filter's tag is its kind and builtTag; that of a Present, and of a piece, which have no elements, plainTag.
const (
	plainTag = 0x80
	builtTag = 0xa0
)

// filter is the shape of a filter.
func filter() shape[api.Filter] {
	return such(inner(), func(f *api.Filter) bool { return spend(f, api.MaxNodes) >= 0 })
}

// spend answers how many of so many filters are left, if f and those in it are taken; a number below 0, where they
// don't do: it ends then, so it does of any filter, also of one that stands beneath itself.
func spend(f *api.Filter, left int) int {
	left--
	if f.Kind != api.And && f.Kind != api.Or && f.Kind != api.Not {
		return left
	}
	for i := range f.Kids {
		if left < 0 {
			return left
		}
		left = spend(&f.Kids[i], left)
	}
	return left
}

// inner is the shape of a filter, or of one in it, of any number of filters.
func inner() shape[api.Filter] {
	return shape[api.Filter]{
		sound: func(from *api.Filter) bool {
			s, ok := filterOf(from.Kind)
			return ok && s.sound(from)
		},
		write: func(from *api.Filter) api.Node {
			s, _ := filterOf(from.Kind)
			return s.write(from)
		},
		read: func(n api.Node, to *api.Filter) bool {
			to.Kind = n.Tag & numberBits
			s, ok := filterOf(to.Kind)
			return ok && s.read(n, to)
		},
		bare: func(from, to *api.Filter) { *to = filt.Bare(*from) },
		deep: true,
	}
}

// filterOf answers the shape of what the filters of a kind have, and whether there is that kind.
func filterOf(kind int) (shape[api.Filter], bool) {
	tag := builtTag | kind
	switch kind {
	case api.And, api.Or:
		return kids(tag), true
	case api.Not:
		return such(kids(tag), func(f *api.Filter) bool { return len(f.Kids) == 1 }), true
	case api.Equal, api.AtLeast, api.AtMost, api.Approx:
		value := field(func(f *api.Filter) *string { return &f.Value }, text(tagText))
		return seq(tag, attr(tagText), value), true
	case api.Pieces:
		pieces := field(func(f *api.Filter) *[]api.Piece { return &f.Pieces }, list(tagSeq, piece()))
		return such(seq(tag, attr(tagText), pieces), ordered), true
	case api.Present:
		return attr(plainTag | kind), true
	}
	return shape[api.Filter]{}, false
}

// kids is the shape of Kids.
func kids(tag int) shape[api.Filter] {
	return field(func(f *api.Filter) *[]api.Filter { return &f.Kids }, list(tag, inner()))
}

// attr is the shape of Attr.
func attr(tag int) shape[api.Filter] {
	return field(func(f *api.Filter) *string { return &f.Attr }, text(tag))
}

// ordered tells whether the pieces of a filter are such as one has.
func ordered(f *api.Filter) bool {
	return filt.Check(api.Filter{Kind: api.Pieces, Attr: "a", Pieces: f.Pieces}) == api.OK
}

// piece is the shape of a piece; that it is one of a filter's is asked of all of them together.
func piece() shape[api.Piece] {
	return shape[api.Piece]{
		sound: func(*api.Piece) bool { return true },
		write: func(from *api.Piece) api.Node { return tlv.Leaf(plainTag|from.Kind, from.Text) },
		read: func(n api.Node, to *api.Piece) bool {
			*to = api.Piece{Kind: n.Tag - plainTag, Text: n.Data}
			return n.Tag == plainTag|api.Initial || n.Tag == plainTag|api.Any || n.Tag == plainTag|api.Final
		},
		bare: func(from, to *api.Piece) { *to = *from },
	}
}
