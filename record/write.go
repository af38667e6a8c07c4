package record

import (
	"castellan/api"
	"castellan/dn"
	"castellan/tlv"
)

// The tags of the elements.
const (
	tagNumber = 0x02
	tagText   = 0x04
	tagSeq    = 0x30
	tagSet    = 0x31
)

// Write answers the record of an update.
func Write(u api.Update) (string, api.Errno) {
	if u.Kind != api.Added && u.Kind != api.Deleted && u.Kind != api.Changed && u.Kind != api.Moved {
		return "", api.ErrOp
	}
	names := []api.DN{u.DN}
	if hasTo(u.Kind) {
		names = append(names, u.To)
	}
	parts := []api.Node{tlv.Leaf(tagNumber, tlv.Int(int64(u.Kind)))}
	for _, d := range names {
		s, e := dn.Print(d)
		if e != api.OK {
			return "", e
		}
		parts = append(parts, text(s))
	}
	if hasAttrs(u.Kind) {
		parts = append(parts, element(tagSeq, u.Attrs, attr))
	}
	return tlv.Put(element(tagSeq, parts, same))
}

// text answers the element of a text.
func text(s string) api.Node { return tlv.Leaf(tagText, s) }

// attr answers the element of an attribute.
func attr(a api.Attr) api.Node {
	return element(tagSeq, []api.Node{text(a.Name), element(tagSet, a.Values, text)}, same)
}

// same answers an element as it is.
func same(n api.Node) api.Node { return n }

// element answers the element of a list, each thing of which is one by said: up to the one with which it is too long to
// be put, whatever is behind, as all of them might not fit into memory.
func element[T any](tag int, list []T, said func(T) api.Node) api.Node {
	n := api.Node{Tag: tag}
	size := 0
	for _, thing := range list {
		kid := said(thing)
		n.Kids = append(n.Kids, kid)
		size += least(kid)
		if size > api.MaxPdu {
			break
		}
	}
	return n
}

// least answers how many bytes an element has, if each length in it is one byte, as few as can be.
func least(n api.Node) int {
	size := 2 + len(n.Data)
	for _, kid := range n.Kids {
		size += least(kid)
	}
	return size
}
