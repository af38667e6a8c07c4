package record

import (
	"castellan/api"
	"castellan/dn"
	"castellan/tlv"
)

// Read answers the update of a record.
func Read(s string) (api.Update, api.Errno) {
	n, e := tlv.Whole(s)
	if e != api.OK {
		return api.Update{}, e
	}
	u := update(n)
	// An update has one record: so what isn't that of what was read is none, whatever is wrong with it.
	if again, e := Write(u); e != api.OK || again != s {
		return api.Update{}, api.ErrForm
	}
	return u, api.OK
}

// parts is elements that are taken one by one.
type parts struct{ left []api.Node }

// next takes an element; where none is left, one that says nothing.
func (p *parts) next() api.Node {
	if len(p.left) == 0 {
		return api.Node{}
	}
	n := p.left[0]
	p.left = p.left[1:]
	return n
}

// update answers what an element says by its parts' places alone, which of a record is its update.
func update(n api.Node) api.Update {
	p := parts{n.Kids}
	kind, _ := tlv.Number(p.next().Data)
	u := api.Update{Kind: int(kind)}
	u.DN = name(p.next())
	if hasTo(u.Kind) {
		u.To = name(p.next())
	}
	if hasAttrs(u.Kind) {
		for _, kid := range p.next().Kids {
			u.Attrs = append(u.Attrs, attrOf(kid))
		}
	}
	return u
}

// name answers the name that an element says.
func name(n api.Node) api.DN {
	d, _ := dn.Parse(n.Data)
	return d
}

// attrOf answers the attribute that an element says.
func attrOf(n api.Node) api.Attr {
	p := parts{n.Kids}
	a := api.Attr{Name: p.next().Data}
	for _, kid := range p.next().Kids {
		a.Values = append(a.Values, kid.Data)
	}
	return a
}
