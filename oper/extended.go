package oper

import (
	"castellan/api"
	"castellan/dn"
	"castellan/entry"
	"castellan/tlv"
)

// extended is an ExtendedReq.
func (r *request) extended() Answer {
	switch r.msg.OID {
	case WhoAmI:
		return r.whoAmI()
	case Passwd:
		return r.passwd()
	}
	return result(api.ProtocolErr)
}

// whoAmI answers the name of who asks.
func (r *request) whoAmI() Answer {
	switch {
	case r.msg.Has:
		return result(api.ProtocolErr)
	case len(r.who) == 0:
		return result(api.Success)
	}
	text, _ := dn.Print(r.who)
	return Answer{Value: "dn:" + text}
}

// The tags of a Passwd's value, and of the first of its parts: the others' follow.
const (
	valueTag = 0x30
	partTag  = 0x80
)

// The places of a Passwd's parts.
const (
	whose = iota
	old
	fresh
)

// part is a part of a Passwd's value: whether it is there, and what it says.
type part struct {
	has  bool
	text string
}

// parts are those of a Passwd's value, each at its place.
type parts [3]part

// passwdParts answers the parts of a Passwd's value, and whether it is one.
func passwdParts(m api.Msg) (parts, bool) {
	var out parts
	if !m.Has {
		return out, true
	}
	n, e := tlv.Whole(m.Value)
	if e != api.OK || n.Tag != valueTag {
		return parts{}, false
	}
	next := 0
	for _, kid := range n.Kids {
		at := kid.Tag - partTag
		if at < next || len(out) <= at {
			return parts{}, false
		}
		out[at] = part{true, kid.Data}
		next = at + 1
	}
	return out, true
}

// passwd is a Passwd: somebody's password is to be another one.
func (r *request) passwd() Answer {
	said, ok := passwdParts(r.msg)
	if !ok {
		return result(api.ProtocolErr)
	}
	x, a := r.owner(said[whose])
	switch {
	case a.Code != api.Success:
		return a
	case !r.Book.May(r.who, x.name, passwordAttr, api.Write):
		return result(api.Insufficient)
	case said[old].has && !matches(entry.Get(x.attrs, passwordAttr), said[old].text):
		return result(api.InvalidCreds)
	case !said[fresh].has:
		return result(api.Unwilling)
	}
	values, code := r.salted([]string{said[fresh].text})
	if code != api.Success {
		return result(code)
	}
	return r.changed(x, []api.Mod{replace(passwordAttr, values...)})
}

// owner answers the entry whose password is to be another one: where none is named, that of who asks.
func (r *request) owner(named part) (target, Answer) {
	d := r.who
	if named.has {
		said, code := parsed(named.text)
		if code != api.Success {
			return target{}, result(code)
		}
		d = said
	}
	if len(d) == 0 {
		return target{}, result(api.Unwilling)
	}
	return r.seen(d)
}
