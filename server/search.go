package server

import (
	"slices"

	"castellan/api"
	"castellan/dn"
	"castellan/page"
	"castellan/plan"
	"castellan/scan"
	"castellan/wire"
)

// search does a SearchReq.
func (t *talk) search(m api.Msg) []api.Msg {
	if responses, ok := t.own(m); ok {
		return responses
	}
	base, e := dn.Parse(m.DN)
	if e != api.OK {
		return []api.Msg{result(m, api.InvalidDN, nil)}
	}
	ask := scan.Ask{Who: t.who, Base: base, Scope: m.Scope, Filter: m.Filter, Names: m.Names, TypesOnly: m.TypesOnly, Size: m.Size, Time: m.Time}
	at := slices.IndexFunc(m.Controls, func(c api.Control) bool { return pages(m, c) })
	if at >= 0 {
		return t.paged(m, ask, m.Controls[at].Value)
	}
	found, code, near := t.find(ask)
	return append(entries(m, found), result(m, code, near))
}

// find answers what layer 24 finds, by what the index tells.
func (s *Server) find(a scan.Ask) ([]scan.Found, int, api.DN) {
	var only [][]int
	if list, ok := plan.Among(s.index, a.Filter, s.wide); ok {
		only = [][]int{list}
	}
	return scan.Search(s.env.View, s.env.Schema, s.env.Book, a, only...)
}

// entries answers a SearchEntry of each that is found.
func entries(m api.Msg, found []scan.Found) []api.Msg {
	var out []api.Msg
	for _, f := range found {
		out = append(out, api.Msg{ID: m.ID, Op: api.SearchEntry, DN: text(f.DN), Attrs: f.Attrs})
	}
	return out
}

// paged does a search of which a page is asked for.
func (t *talk) paged(m api.Msg, ask scan.Ask, value string) []api.Msg {
	size, cookie, ok := page.Ask(value)
	if !ok {
		return []api.Msg{result(m, api.ProtocolErr, nil)}
	}
	key, from := t.key(m), 0
	if cookie != "" {
		from, ok = t.places.Take(t.number, cookie, key, t.version)
		if !ok {
			return []api.Msg{result(m, api.Unwilling, nil)}
		}
	}
	found, code, near := t.find(ask)
	switch {
	case code != api.Success && code != api.SizeLimit && code != api.TimeLimit:
		return []api.Msg{result(m, code, near)}
	case size == 0:
		return []api.Msg{turned(m, api.Success, "")}
	}
	// Of one key and version all that is found is the same: what is behind a place is there.
	rest := found[from:]
	if len(rest) <= size {
		return append(entries(m, rest), turned(m, code, ""))
	}
	next := t.places.Keep(t.number, key, t.version, from+size)
	return append(entries(m, rest[:size]), turned(m, api.Success, next))
}

// key answers by what a search is known on its next pages: who asks, and for what.
func (t *talk) key(m api.Msg) string {
	m.ID, m.Controls = 0, nil
	s, _ := wire.Write(m)
	// A name's text has no byte 0, so that none runs into what is behind it.
	return text(t.who) + "\x00" + s
}

// turned answers the result behind a page, with the cookie of the next one.
func turned(m api.Msg, code int, cookie string) api.Msg {
	r := result(m, code, nil)
	r.Controls = []api.Control{{OID: page.OID, Has: true, Value: page.Answer(0, cookie)}}
	return r
}
