package server

import (
	"slices"
	"strings"

	"castellan/api"
	"castellan/conn"
	"castellan/dn"
	"castellan/oper"
	"castellan/page"
	"castellan/wire"
)

// talk is the requests of one Feed under work. Who is bound stands in it, too: a connection that is closed behind them
// tells nobody any more, but they are done by somebody all the same, however the bytes were cut.
type talk struct {
	*Server
	number int
	who    api.DN
}

// Feed takes bytes that come on a connection, and answers the bytes of the responses.
func (s *Server) Feed(k int, parts ...string) (string, api.Errno) {
	switch {
	case s == nil:
		return "", api.ErrNil
	case !isConn(k):
		return "", api.ErrArg
	case s.failed:
		return "", api.ErrClosed
	}
	c := s.conns[k]
	t := &talk{Server: s, number: k, who: c.Who()}
	requests, bad := c.Feed(parts...)
	out, e := t.answers(requests)
	c.Bind(t.who)
	if c.Closed() {
		s.places.Drop(k)
	}
	if bad && e == api.OK {
		out += conn.Notice()
	}
	return out, e
}

// answers does requests, and answers the bytes of their responses, up to the first at which the disk has an error.
func (t *talk) answers(requests []api.Msg) (string, api.Errno) {
	var out strings.Builder
	for _, m := range requests {
		responses, e := t.answer(m)
		if e != api.OK {
			return out.String(), e
		}
		out.WriteString(conn.Reply(responses...))
	}
	return out.String(), api.OK
}

// answer does a request, and answers its responses, or the disk's error.
func (t *talk) answer(m api.Msg) ([]api.Msg, api.Errno) {
	switch {
	case m.Op == api.AbandonReq:
		return nil, api.OK
	case slices.ContainsFunc(m.Controls, func(c api.Control) bool { return c.Critical && !pages(m, c) }):
		t.bind(m, oper.Answer{Code: api.Unavailable})
		return []api.Msg{result(m, api.Unavailable, nil)}, api.OK
	case m.Op == api.SearchReq:
		return t.search(m), api.OK
	}
	return t.do(m)
}

// pages tells whether a control asks for a search in pages.
func pages(m api.Msg, c api.Control) bool { return m.Op == api.SearchReq && c.OID == page.OID }

// result answers the result of a request: a code and, if there is one, a name.
func result(m api.Msg, code int, matched api.DN) api.Msg {
	op := m.Op + 1
	if m.Op == api.SearchReq {
		op = api.SearchDone
	}
	r := wire.Result(m.ID, op, code)
	r.Matched = text(matched)
	return r
}

// text answers the text of a name, which is an entry's, the suffix or who is bound: so it can be printed.
func text(d api.DN) string {
	s, _ := dn.Print(d)
	return s
}

// do does a request that isn't a search.
func (t *talk) do(m api.Msg) ([]api.Msg, api.Errno) {
	a := oper.Do(t.env, t.who, m, t.now, t.salt)
	t.salt += uint64(a.Salts)
	e := api.OK
	if a.Do {
		code, failed := t.update(a.U)
		if code != api.Success {
			a.Code = code
		}
		e = failed
	}
	t.bind(m, a)
	if e != api.OK {
		return nil, e
	}
	r := result(m, a.Code, a.Matched)
	if m.Op == api.ExtendedReq && m.OID == oper.WhoAmI && a.Code == api.Success {
		r.Has, r.Value = true, a.Value
	}
	return []api.Msg{r}, api.OK
}

// bind lets be bound whom a BindReq comes to: nobody, where it comes to another code than Success.
func (t *talk) bind(m api.Msg, a oper.Answer) {
	switch {
	case m.Op != api.BindReq:
	case a.Code == api.Success:
		t.who = a.Who
	default:
		t.who = nil
	}
}

// update does an update, and keeps the index; it answers a code, and the disk's error.
func (s *Server) update(u api.Update) (int, api.Errno) {
	id := s.store.Find(u.DN)
	code, e := s.store.Do(u)
	s.failed = e != api.OK
	if code != api.Success {
		return code, e
	}
	s.version++
	switch u.Kind {
	case api.Added:
		s.index.Put(s.store.Find(u.DN), u.Attrs)
	case api.Deleted:
		s.index.Drop(id)
	default:
		// An entry keeps its ID, also where it is moved, and so do those beneath it, with their attributes.
		s.index.Put(id, u.Attrs)
	}
	return api.Success, api.OK
}
