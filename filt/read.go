package filt

import (
	"strings"

	"castellan/api"
	"castellan/dn"
	"castellan/octet"
)

// reader goes through a text: rest is what it hasn't read yet, count how many filters it has met.
type reader struct {
	rest  string
	count int
}

// Parse answers the filter of a text.
func Parse(s string) (api.Filter, api.Errno) {
	if len(s) > api.MaxText {
		return api.Filter{}, api.ErrLong
	}
	r := reader{rest: s}
	f, e := r.filter(1)
	if e != api.OK {
		return api.Filter{}, e
	}
	if r.rest != "" {
		return api.Filter{}, api.ErrForm
	}
	return f, api.OK
}

// take reads a word, if it is the next one.
func (r *reader) take(word string) bool {
	rest, ok := strings.CutPrefix(r.rest, word)
	r.rest = rest
	return ok
}

// filter reads a filter of that depth.
func (r *reader) filter(depth int) (api.Filter, api.Errno) {
	if !r.take("(") {
		return api.Filter{}, api.ErrForm
	}
	r.count++
	if e := place(depth, r.count); e != api.OK {
		return api.Filter{}, e
	}
	f, e := r.inner(depth)
	if e != api.OK {
		return api.Filter{}, e
	}
	if !r.take(")") {
		return api.Filter{}, api.ErrForm
	}
	return f, api.OK
}

// inner reads what stands in the parentheses of a filter of that depth.
func (r *reader) inner(depth int) (api.Filter, api.Errno) {
	switch {
	case r.take("&"):
		return r.list(api.And, depth)
	case r.take("|"):
		return r.list(api.Or, depth)
	case r.take("!"):
		kid, e := r.filter(depth + 1)
		if e != api.OK {
			return api.Filter{}, e
		}
		return api.Filter{Kind: api.Not, Kids: []api.Filter{kid}}, api.OK
	}
	return r.leaf()
}

// list reads the Kids of a filter of that depth, any number of them.
func (r *reader) list(kind, depth int) (api.Filter, api.Errno) {
	f := api.Filter{Kind: kind}
	for strings.HasPrefix(r.rest, "(") {
		kid, e := r.filter(depth + 1)
		if e != api.OK {
			return api.Filter{}, e
		}
		f.Kids = append(f.Kids, kid)
	}
	return f, api.OK
}

// leaf reads an attribute, a sign, and what is behind, up to the parenthesis.
func (r *reader) leaf() (api.Filter, api.Errno) {
	text, _, closed := strings.Cut(r.rest, ")")
	left, right, equals := strings.Cut(text, "=")
	kind, attr := kindOf(left)
	if !closed || !equals || !dn.Type(attr) {
		return api.Filter{}, api.ErrForm
	}
	f, ok := asserted(kind, right)
	if !ok {
		return api.Filter{}, api.ErrForm
	}
	r.rest = r.rest[len(text):]
	// A mere piece of the text would hold all of it in memory as long as the filter lives.
	f.Attr = strings.Clone(attr)
	return f, api.OK
}

// kindOf answers the kind that is told by what is ahead of an equals sign, and the attribute there.
func kindOf(left string) (int, string) {
	for _, kind := range []int{api.AtLeast, api.AtMost, api.Approx} {
		if attr, ok := strings.CutSuffix(left+"=", sign(kind)); ok {
			return kind, attr
		}
	}
	return api.Equal, left
}

// asserted answers a filter of that kind, but for its attribute, of what is behind its sign, and whether there is one.
func asserted(kind int, text string) (api.Filter, bool) {
	parts, ok := readAll(strings.Split(text, "*"))
	switch {
	case !ok || kind != api.Equal && len(parts) > 1:
		return api.Filter{}, false
	case len(parts) == 1:
		return api.Filter{Kind: kind, Value: parts[0]}, true
	case text == "*":
		return api.Filter{Kind: api.Present}, true
	}
	pieces := piecesOf(parts)
	return api.Filter{Kind: api.Pieces, Pieces: pieces}, sound(pieces)
}

// piecesOf answers the pieces of parts with a * between two.
func piecesOf(parts []string) []api.Piece {
	var pieces []api.Piece
	for i, part := range parts {
		kind := api.Any
		switch i {
		case 0:
			kind = api.Initial
		case len(parts) - 1:
			kind = api.Final
		}
		if part == "" && kind != api.Any {
			continue
		}
		pieces = append(pieces, api.Piece{Kind: kind, Text: part})
	}
	return pieces
}

// readAll answers the bytes that each of the texts says, and whether all can be read.
func readAll(texts []string) ([]string, bool) {
	var list []string
	for _, text := range texts {
		value, ok := readValue(text)
		if !ok {
			return nil, false
		}
		list = append(list, value)
	}
	return list, true
}

// readValue answers the bytes that a text says, and whether it can be read.
func readValue(text string) (string, bool) {
	var value []byte
	for at := 0; at < len(text); at++ {
		if !guarded(text[at]) {
			value = append(value, text[at])
			continue
		}
		if text[at] != '\\' || at+2 >= len(text) {
			return "", false
		}
		byDigits, ok := octet.Unhex(text[at+1 : at+3])
		if !ok {
			return "", false
		}
		value = append(value, byDigits...)
		at += 2
	}
	return string(value), true
}
