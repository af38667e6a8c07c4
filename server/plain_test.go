package server_test

import (
	"fmt"
	"strings"
	"testing"

	"castellan/acl"
	"castellan/api"
	"castellan/dn"
	"castellan/entry"
	"castellan/feed"
	"castellan/oper"
	"castellan/page"
	"castellan/pass"
	"castellan/policy"
	"castellan/scan"
	"castellan/schema"
	"castellan/tree"
	"castellan/truth"
	"castellan/wire"
)

// line is a connection of a plain server.
type line struct {
	waits  string
	closed bool
	who    api.DN
}

// spot is a place of a plain server: of a connection, by its number, good for one search of somebody behind so many updates.
type spot struct {
	conn, number, version, at int
	who                       string
	m                         api.Msg
}

// plain is a server in another way: it has a tree alone, no index, and does each message as soon as it is there.
type plain struct {
	*testing.T
	oper.Env
	suffix         string
	tree           *tree.Tree
	lines          [64]line
	spots          []spot
	count, version int
	now            int64
	salt           uint64
	seen           map[string]int // how often each sort of response was told
}

// newPlain answers a plain server without entries.
func newPlain(t *testing.T, c api.Config, now int64) *plain {
	x, e := tree.New(name(c.Suffix))
	if e != api.OK {
		t.Fatal(e)
	}
	b, e := acl.New(c.Schema, name(c.Admin), c.Rules...)
	if e != api.OK {
		t.Fatal(e)
	}
	env := oper.Env{View: x.View, Schema: c.Schema, Book: b, Policy: c.Policy, Admin: name(c.Admin), Secret: c.Password}
	return &plain{T: t, Env: env, suffix: text(name(c.Suffix)), tree: x, now: now, seen: map[string]int{}}
}

// again lets it be as it is when it is opened again: the entries stay.
func (p *plain) again() {
	p.lines, p.spots, p.count, p.version, p.salt = [64]line{}, nil, 0, 0, 0
}

// renew is Renew.
func (p *plain) renew(k int) {
	p.lines[k] = line{}
	p.drop(func(s spot) bool { return s.conn == k })
}

// drop lets some places be gone.
func (p *plain) drop(gone func(spot) bool) {
	var left []spot
	for _, s := range p.spots {
		if !gone(s) {
			left = append(left, s)
		}
	}
	p.spots = left
}

// feed is Feed.
func (p *plain) feed(k int, s string) string {
	l := &p.lines[k]
	if l.closed {
		return ""
	}
	l.waits += s
	out := ""
	for {
		n, e := feed.Cut(l.waits)
		if e == 0 && n == 0 {
			return out
		}
		var m api.Msg
		if e == 0 {
			m, e = wire.Read(l.waits[:n])
		}
		if e != 0 || m.ID == 0 || !strings.Contains(" 0 2 3 6 8 10 12 14 16 23 ", fmt.Sprint(" ", m.Op, " ")) {
			*l = line{closed: true}
			p.seen["notice"]++
			return out + bytesOf(api.Msg{Op: 24, Code: 2, OID: "1.3.6.1.4.1.1466.20036"})
		}
		l.waits = l.waits[n:]
		if m.Op == 2 {
			*l = line{closed: true}
			p.seen["unbind"]++
			return out
		}
		before := entries(p.View)
		who := l.who
		for _, r := range p.answer(k, m) {
			p.tally(m, r)
			out += bytesOf(r)
		}
		if entries(p.View) != before && m.Op != 0 {
			p.written(who, m)
		}
	}
}

// tally counts a response.
func (p *plain) tally(m, r api.Msg) {
	what := fmt.Sprint(map[int]string{0: "bind", 3: "search", 6: "modify", 8: "add", 10: "delete", 12: "move", 14: "compare", 23: "extended"}[m.Op], " ", r.Code)
	switch {
	case r.Op == api.SearchEntry:
		what = "entry"
	case len(r.Controls) > 0 && len(r.Controls[0].Value) > 7:
		what += " more"
	case len(r.Controls) > 0:
		what += " done"
	}
	p.seen[what]++
}

// answer is what a request is answered.
func (p *plain) answer(k int, m api.Msg) []api.Msg {
	l := &p.lines[k]
	done := api.Msg{ID: m.ID, Op: m.Op + 1}
	if m.Op == 3 {
		done.Op = 5
	}
	if m.Op == 16 {
		return nil
	}
	for _, c := range m.Controls {
		if c.Critical && (m.Op != 3 || c.OID != "1.2.840.113556.1.4.319") {
			if m.Op == 0 {
				l.who = nil
			}
			done.Code = 12
			return []api.Msg{done}
		}
	}
	if m.Op == 3 {
		return p.search(k, m, done)
	}
	a := oper.Do(p.Env, l.who, m, p.now, p.salt)
	p.salt += uint64(a.Salts)
	if m.Op == 0 {
		p.proved(m, a)
	}
	if a.Do {
		is(p.T, "an update can be done", p.tree.Do(a.U), 0)
		p.version++
		p.seen["update"]++
	}
	if m.Op == 0 {
		l.who = nil
		if a.Code == 0 {
			l.who = a.Who
		}
	}
	done.Code = a.Code
	if len(a.Matched) > 0 {
		done.Matched = text(a.Matched)
	}
	if m.Op == 23 && m.OID == "1.3.6.1.4.1.4203.1.11.3" && a.Code == 0 {
		done.Has, done.Value = true, a.Value
	}
	return []api.Msg{done}
}

// proved: a name is bound by a password that a value of its entry was made of, while it isn't locked or too old; or, that
// of the one who may all, by that one's (P5).
func (p *plain) proved(m api.Msg, a oper.Answer) {
	if a.Code != 0 || len(a.Who) == 0 {
		return
	}
	if strings.EqualFold(text(a.Who), text(p.Admin)) {
		is(p.T, "the password of the one who may all", m.Text, p.Secret)
		return
	}
	_, attrs := p.View.Entry(p.View.Find(a.Who))
	right := false
	for _, v := range entry.Get(attrs, "userPassword") {
		right = right || pass.Check(v, m.Text)
	}
	is(p.T, "the password", right, true)
	_, outcome := policy.Try(p.Policy, policy.Read(attrs), p.now, true)
	is(p.T, "what comes of it", outcome, policy.Good)
	p.seen["proved"]++
}

// written: an update was done by somebody who has the right to write (P6).
func (p *plain) written(who api.DN, m api.Msg) {
	d := m.DN
	if m.Op == 23 {
		return
	}
	is(p.T, "the right to write "+d, p.Book.May(who, name(d), "", 8), true)
	for _, a := range m.Attrs {
		is(p.T, "the right to write "+a.Name, p.Book.May(who, name(d), a.Name, 8), true)
	}
	for _, a := range m.Mods {
		is(p.T, "the right to write "+a.Name, p.Book.May(who, name(d), a.Name, 8), true)
	}
}

// search is what a SearchReq is answered.
func (p *plain) search(k int, m, done api.Msg) []api.Msg {
	if m.Scope == 0 && m.DN == "" {
		attrs := lines("namingContexts:"+p.suffix, "objectClass:top", "subschemaSubentry:cn=subschema", "supportedControl:1.2.840.113556.1.4.319", "supportedExtension:1.3.6.1.4.1.4203.1.11.1|1.3.6.1.4.1.4203.1.11.3", "supportedLDAPVersion:3")
		return p.own(m, done, "", attrs, attrs[1:2])
	}
	if key, e := dn.Key(m.DN); m.Scope == 0 && e == 0 && key == "cn=subschema" {
		types, classes := schema.Lines(p.Schema)
		attrs := []api.Attr{{Name: "attributeTypes", Values: types}, {Name: "cn", Values: []string{"subschema"}}, {Name: "objectClass", Values: []string{"top"}}, {Name: "objectClasses", Values: classes}}
		return p.own(m, done, "cn=subschema", attrs, attrs[1:3])
	}
	base, e := dn.Parse(m.DN)
	if e != 0 {
		done.Code = 34
		return []api.Msg{done}
	}
	who := p.lines[k].who
	found, code, near := scan.Search(p.View, p.Schema, p.Book, scan.Ask{Who: who, Base: base, Scope: m.Scope, Filter: m.Filter, Names: m.Names, TypesOnly: m.TypesOnly, Size: m.Size, Time: m.Time})
	done.Code = code
	if len(near) > 0 {
		done.Matched = text(near)
	}
	for _, c := range m.Controls {
		if c.OID == "1.2.840.113556.1.4.319" {
			return p.page(k, m, done, found, c)
		}
	}
	return append(p.found(who, m, found), done)
}

// own is what is told of the server itself, or of its schema.
func (p *plain) own(m, done api.Msg, d string, attrs, held []api.Attr) []api.Msg {
	if truth.Of(p.Schema, m.Filter, held) != truth.True {
		return []api.Msg{done}
	}
	p.seen["own"]++
	e := api.Msg{ID: m.ID, Op: 4, DN: d}
	for _, a := range attrs {
		wanted := len(m.Names) == 0
		for _, n := range m.Names {
			wanted = wanted || n == "*" || n == "+" || strings.EqualFold(n, a.Name)
		}
		if m.TypesOnly {
			a.Values = nil
		}
		if wanted {
			e.Attrs = append(e.Attrs, a)
		}
	}
	return []api.Msg{e, done}
}

// found is the entries that are found, of which somebody may see all that is told (P6).
func (p *plain) found(who api.DN, m api.Msg, list []scan.Found) []api.Msg {
	var out []api.Msg
	for _, f := range list {
		is(p.T, "the right to see an entry", p.Book.May(who, f.DN, "", 1), true)
		for _, a := range f.Attrs {
			is(p.T, "the right to read an attribute", p.Book.May(who, f.DN, a.Name, 2), true)
		}
		out = append(out, api.Msg{ID: m.ID, Op: 4, DN: text(f.DN), Attrs: f.Attrs})
	}
	return out
}

// page is what a search in pages is answered, of which all that is found is known.
func (p *plain) page(k int, m, done api.Msg, found []scan.Found, c api.Control) []api.Msg {
	who := p.lines[k].who
	bare := m
	bare.ID, bare.Controls = 0, nil
	size, cookie, ok := page.Ask(c.Value)
	if !ok {
		return []api.Msg{{ID: m.ID, Op: 5, Code: 2}}
	}
	at := 0
	if cookie != "" {
		good := false
		p.drop(func(s spot) bool {
			it := s.conn == k && fmt.Sprintf("%016x", s.number) == fmt.Sprintf("%x", cookie)
			if it && s.who == text(who) && bytesOf(s.m) == bytesOf(bare) && s.version == p.version {
				good, at = true, s.at
			}
			return it
		})
		if !good {
			return []api.Msg{{ID: m.ID, Op: 5, Code: 53}}
		}
		p.seen["taken"]++
	}
	if done.Code != 0 && done.Code != 3 && done.Code != 4 {
		return []api.Msg{done}
	}
	next := ""
	switch rest := found[at:]; {
	case size == 0:
		found, done.Code = nil, 0
	case len(rest) > size:
		found, done.Code = rest[:size], 0
		next = p.keep(spot{conn: k, version: p.version, at: at + size, who: text(who), m: bare})
	default:
		found = rest
	}
	done.Controls = []api.Control{{OID: "1.2.840.113556.1.4.319", Has: true, Value: page.Answer(0, next)}}
	return append(p.found(who, m, found), done)
}

// keep keeps a place, and answers its cookie.
func (p *plain) keep(x spot) string {
	p.count++
	x.number = p.count
	p.spots = append(p.spots, x)
	over := -4
	for _, s := range p.spots {
		if s.conn == x.conn {
			over++
		}
	}
	p.drop(func(s spot) bool {
		gone := over > 0 && s.conn == x.conn
		if gone {
			over--
		}
		return gone
	})
	return numbered(x.number)
}
