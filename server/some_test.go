package server_test

import (
	"fmt"
	"maps"
	"math"
	"math/rand"
	"slices"
	"strings"
	"testing"

	"castellan/api"
	"castellan/oper"
	"castellan/page"
	"castellan/schema"
)

// chance makes things by chance.
type chance struct{ *rand.Rand }

// one answers one of these, told with blanks between two.
func (r chance) one(words string) string {
	list := strings.Fields(words)
	return list[r.Intn(len(list))]
}

// in tells whether something is so that is so once in so many times.
func (r chance) in(times int) bool { return r.Intn(times) == 0 }

// config answers a configuration by chance, most of whose rules allow.
func (r chance) config() api.Config {
	c := config()
	c.Suffix = r.one(`dc=z DC=Z dc=\7a`)
	c.Policy = api.Policy{Fails: r.Intn(4), Window: int64(r.Intn(8)), Lock: int64(r.Intn(6)), Age: int64(r.Intn(2) * r.Intn(30))}
	c.Rules = nil
	for range r.Intn(4) {
		rule := api.Rule{Who: r.Intn(3), Rights: 1 + r.Intn(15), Allow: r.in(2), Where: r.one("dc=z ou=x,dc=z cn=a,ou=x,dc=z ou=y,dc=z")}
		if r.in(2) {
			rule.Attr = r.one("cn userPassword description objectClass sn")
		}
		c.Rules = append(c.Rules, rule)
	}
	if !r.in(8) {
		c.Rules = append(c.Rules, api.Rule{Rights: []int{15, 7, 7, 7}[r.Intn(4)], Allow: true})
	}
	return c
}

// indexed lets a configuration have other types that are indexed, which makes no difference.
func (r chance) indexed(c api.Config, wide int) api.Config {
	c.Wide, c.Indexed = wide, nil
	for _, x := range schema.Core().Types {
		if r.in(2) {
			c.Indexed = append(c.Indexed, strings.ToUpper(x.Name))
		}
	}
	return c
}

// name answers the text of a name, mostly of an entry, in some spelling.
func (r chance) name(p *plain) string {
	out := "dc=z"
	if list := p.View.Scope(p.View.Find(p.View.Suffix()), 2); len(list) > 0 {
		d, _ := p.View.Entry(list[r.Intn(len(list))])
		out = text(d)
	}
	switch r.Intn(40) {
	case 0:
		return out + ","
	case 1:
		return "cn=none," + out
	case 2:
		return out + ",dc=y"
	case 3, 4, 5, 6, 7:
		return strings.ToUpper(out)
	}
	return out
}

// person answers an AddReq of a person, or of something else.
func (r chance) person(p *plain) api.Msg {
	if r.in(6) {
		ou := r.one("x y")
		return added("ou="+ou+","+r.name(p), "objectClass:organizationalUnit", "ou:"+ou)
	}
	if p.View.Len() == 0 || r.in(30) {
		return added("dc=z", "objectClass:domain", "dc:z")
	}
	cn := r.one("a b c d e A B f")
	m := added("cn="+cn+","+r.name(p), "objectClass:person", "cn:"+cn, "sn:"+r.one("n m N n|m"))
	if r.in(2) {
		m.Attrs = append(m.Attrs, lines("userPassword:"+r.one("p q p|q r"))...)
	}
	if r.in(3) {
		m.Attrs = append(m.Attrs, lines("description:"+r.one("abc abcd xabc x|abcabc AB"))...)
	}
	if r.in(12) {
		m.Attrs = m.Attrs[1:]
	}
	return m
}

// filter answers a filter by chance.
func (r chance) filter(depth int) api.Filter {
	if depth > 0 && r.in(2) {
		f := api.Filter{Kind: r.Intn(3)}
		for range 1 + r.Intn(2) {
			f.Kids = append(f.Kids, r.filter(depth-1))
		}
		if f.Kind == api.Not {
			f.Kids = f.Kids[:1]
		}
		return f
	}
	return filterOf(r.one("(cn=a) (cn=B) (CN=c) (sn=n) (sn=m) (cn=*) (sn=*) (description=*) (description=abc*) (description=*b*) (description=*bcd) (description=a*c) (description>=abcd) (sn<=m) (none=x) (objectClass=person) (objectClass=*) (userPassword=*) (cn~=a) (objectClass=top) (sn>=m) (createdAt>=1) (ou=x)"))
}

// search answers a SearchReq, often in pages.
func (r chance) search(p *plain) api.Msg {
	m := api.Msg{Op: api.SearchReq, DN: r.name(p), Scope: r.Intn(3), Filter: r.filter(2)}
	if r.in(2) {
		m.DN, m.Scope = "dc=z", 2
	}
	if r.in(8) {
		m.DN, m.Scope = r.one("| CN=Subschema cn=subschema |"), r.Intn(3)/2
		m.DN = strings.Trim(m.DN, "|")
	}
	if r.in(3) {
		m.Size = 1 + r.Intn(5)
	}
	m.TypesOnly, m.Time = r.in(6), r.Intn(2)
	for r.in(2) {
		m.Names = append(m.Names, r.one("cn SN * + objectClass userPassword none description"))
	}
	return m
}

// paged answers a search in pages: a new one, or one that goes on at a place, which isn't always good.
func (r chance) paged(p *plain, k int) api.Msg {
	m, cookie := r.search(p), ""
	if r.in(2) {
		m.Filter = filterOf("(objectClass=*)")
	}
	m.Size = 0
	for _, s := range p.spots {
		if s.conn == k && !r.in(4) {
			m, cookie = s.m, numbered(s.number)
		}
	}
	if r.in(20) {
		cookie = r.one("x ") + strings.Repeat("y", r.Intn(2))
	}
	if r.in(10) {
		cookie = numbered(1 + r.Intn(1+p.count))
	}
	m = paged(m, []int{1, 1, 2, 2, 3, 4, 0, math.MaxInt32}[r.Intn(8)], cookie)
	switch r.Intn(30) {
	case 0:
		m.Controls[0].Critical = true
	case 1:
		m.Controls[0].Value = m.Controls[0].Value[1:]
	case 2:
		m.Controls[0].Has = false
	case 3:
		m = paged(m, 2, "")
	}
	return m
}

// credentials answers a BindReq.
func (r chance) credentials(p *plain) api.Msg {
	m := bound(r.name(p), r.one("p p q r"))
	switch r.Intn(12) {
	case 0:
		return bound("", "")
	case 1:
		m.Version = 2
	case 2:
		m.Sasl = true
	case 3, 4, 5:
		return bound(r.one("cn=root CN=Root"), r.one("s s s s q"))
	}
	return m
}

// msg answers a request on a connection.
func (r chance) msg(p *plain, k int) api.Msg {
	var m api.Msg
	switch r.Intn(17) {
	case 0, 1, 2:
		m = r.person(p)
	case 3, 16:
		m = modified(r.name(p), r.one("+ + - =")+r.one("description:abc description:abc description:x sn:n sn:n cn:f sn:m|N description description userPassword:q createdAt:1 none:x"))
	case 4:
		m = deleted(r.name(p))
	case 5:
		m = moved(r.name(p), r.one("cn=a cn=g cn=h ou=w"))
		if r.in(2) {
			m.HasSup, m.Sup = true, r.name(p)
		}
	case 6:
		m = compared(r.name(p), r.one("cn sn userPassword none dc"), r.one("a n p z"))
	case 7, 8:
		m = r.credentials(p)
	case 9:
		m = r.extension(p)
	case 10:
		m = api.Msg{Op: api.AbandonReq, Target: 1}
	case 11, 12:
		m = r.search(p)
	default:
		m = r.paged(p, k)
	}
	m.ID = 1 + r.Intn(300)
	switch r.Intn(30) {
	case 0:
		m = with(m, critical("1.2"))
	case 1, 2:
		m.Controls = append([]api.Control{common("1.2")}, m.Controls...)
	}
	return m
}

// extension answers an ExtendedReq.
func (r chance) extension(p *plain) api.Msg {
	if r.in(2) {
		return whoAmI()
	}
	d := r.name(p)
	if len(d) > 50 || r.in(8) {
		return extended("1.2")
	}
	return extended(oper.Passwd, string([]byte{0x30, byte(len(d) + 5), 0x80, byte(len(d))})+d+"\x82\x01"+r.one("p q r"))
}

// behind answers what stands behind the requests of a batch, mostly nothing.
func (r chance) behind() string {
	switch r.Intn(40) {
	case 0:
		return bytesOf(api.Msg{ID: 1, Op: api.UnbindReq}) + "\x31"
	case 1:
		return r.one("\x31 0\x80 0\x02\x02\x00 0\x05\x02\x01\x01\x5e\x00")
	case 2:
		return bytesOf(whoAmI())
	}
	return ""
}

// met are sorts of responses that tests by chance must meet.
var met = []string{
	"notice", "unbind", "entry", "own", "proved", "update", "taken", "bind 0", "bind 49", "bind 7", "bind 2", "bind 34", "bind 12", "search 0", "search 4", "search 32", "search 34", "search 12", "search 2", "search 53", "search 0 more", "search 0 done",
	"add 0", "add 68", "add 50", "add 32", "add 65", "modify 0", "modify 50", "modify 17", "modify 19", "modify 20", "delete 0", "delete 66", "delete 50", "move 0", "move 50", "move 53", "move 68", "compare 5", "compare 6", "compare 17", "extended 0", "extended 2", "extended 32", "extended 50",
}

// P28.6, P2, P3, P5, P6: servers by chance answer just what a plain one does, whatever is indexed, and however the bytes
// are cut; they have the same entries, also when they are opened again.
func TestSome(t *testing.T) {
	r := chance{rand.New(rand.NewSource(28))}
	seen := map[string]int{}
	for range 60 {
		c := r.config()
		p := newPlain(t, c, 0)
		p.seen = seen
		configs := []api.Config{r.indexed(c, 0), r.indexed(c, 1+r.Intn(4)), r.indexed(c, math.MaxInt)}
		var servers []*world
		for _, c := range configs {
			servers = append(servers, opened(t, newDisk(), c, 0))
		}
		r.life(t, p, servers, configs)
		if t.Failed() {
			t.FailNow()
		}
	}
	for _, what := range met {
		if seen[what] < 5 {
			t.Errorf("too few of %s: %d", what, seen[what])
		}
	}
	if t.Failed() {
		t.Log(slices.Sorted(maps.Keys(seen)), seen)
	}
}

// life leads servers through some time.
func (r chance) life(t *testing.T, p *plain, servers []*world, configs []api.Config) {
	t.Helper()
	for step := range 120 {
		k := []int{0, 0, 0, 1, 2, 63}[r.Intn(6)]
		s := ""
		if step < 4 || r.in(15) {
			s = bytesOf(numberedAs(1, bound("cn=root", "s")))
		}
		for range 1 + r.Intn(3) {
			s += bytesOf(r.msg(p, k))
		}
		s += r.behind()
		want := p.feed(k, s)
		for i, w := range servers {
			got := r.fed(w, k, s, i)
			is(t, fmt.Sprintf("step %d, server %d, bytes %q", step, i, s), saying(t, got), saying(t, want))
			is(t, "the bytes", got == want, true)
			is(t, "Closed", w.Closed(k), p.lines[k].closed)
			is(t, "Who", text(w.Who(k)), text(p.lines[k].who))
		}
		if t.Failed() {
			return
		}
		r.pass(t, p, servers, configs)
	}
}

// fed answers what a server answers to bytes: at once, or cut into parts.
func (r chance) fed(w *world, k int, s string, way int) string {
	out := ""
	for s != "" {
		n := len(s)
		switch way {
		case 1:
			n = 1 + r.Intn(n)
		case 2:
			n = min(n, 1+r.Intn(3))
		}
		more, e := w.Feed(k, s[:n/2], "", s[n/2:n])
		is(w.T, "the error", e, api.OK)
		out += more
		s = s[n:]
	}
	return out
}

// pass lets things happen to all servers between requests.
func (r chance) pass(t *testing.T, p *plain, servers []*world, configs []api.Config) {
	n, salt := int64(r.Intn(4)), r.Uint64()
	tick, salted, again := r.in(4), r.in(10), r.in(40)
	if tick {
		p.now += n
	}
	if salted {
		p.salt = salt
	}
	if again {
		p.again()
	}
	for i, w := range servers {
		if tick {
			is(t, "Tick", w.Tick(n), api.OK)
		}
		if salted {
			w.Salt(salt)
		}
		is(t, "the entries", entries(w.View()), entries(p.View))
		is(t, "Now", w.Now(), p.now)
		if again {
			w.disk.Crash(api.Loss{Keep: salt, Torn: -1})
			servers[i] = opened(t, w.disk, configs[i], w.Now())
			is(t, "the entries, opened again", entries(servers[i].View()), entries(p.View))
		}
	}
	for k := range p.lines {
		// What waits may be a beginning that isn't one of what comes.
		if p.lines[k].closed || p.lines[k].waits != "" {
			p.renew(k)
			for _, w := range servers {
				is(t, "Renew", w.Renew(k), api.OK)
			}
		}
	}
}

// P8: pages, one behind the other, are what a search tells without pages.
func TestPagesSome(t *testing.T) {
	r := chance{rand.New(rand.NewSource(8))}
	turned := 0
	for range 20 {
		c := r.config()
		p := newPlain(t, c, 0)
		w := opened(t, newDisk(), c, 0)
		w.does(0, bound("cn=root", "s"))
		for range 60 {
			m := r.person(p)
			m.ID = 5
			w.ask(0, m)
			p.lines[0].who = name("cn=root")
			p.feed(0, bytesOf(m))
		}
		is(t, "the entries", entries(w.View()), entries(p.View))
		for range 40 {
			k := r.Intn(2)
			m := r.search(p)
			for m.DN == "" || strings.HasSuffix(m.DN, "ubschema") {
				m = r.search(p)
			}
			m.ID = 5
			whole := w.ask(k, m)
			at := strings.LastIndex(whole, "5 search")
			is(t, "the pages", r.pages(w, k, m), whole[:at])
			turned += strings.Count(whole, ";")
		}
	}
	if turned < 300 {
		t.Errorf("too few entries are found: %d", turned)
	}
}

// pages answers all pages of a search, without their results; of which the last has the code that there is without pages.
func (r chance) pages(w *world, k int, m api.Msg) string {
	w.Helper()
	whole := w.ask(k, m)
	code := whole[strings.LastIndex(whole, "5 search"):]
	out, cookie := "", ""
	for {
		size := 1 + r.Intn(4)
		s, e := w.Feed(k, bytesOf(paged(m, size, cookie)))
		is(w.T, "the error", e, api.OK)
		msgs := read(w.T, s)
		last := msgs[len(msgs)-1]
		for _, x := range msgs[:len(msgs)-1] {
			out += told(x) + "; "
		}
		if len(last.Controls) == 0 {
			is(w.T, "no pages", told(last), code)
			return out
		}
		_, next, _ := page.Ask(last.Controls[0].Value)
		if cookie != "" {
			is(w.T, "the cookie once more", w.ask(k, paged(m, size, cookie)), "5 search 53")
		}
		if next == "" {
			is(w.T, "the code", told(last), code+done)
			return out
		}
		is(w.T, "the size", len(msgs)-1, size)
		is(w.T, "the code of a page", last.Code, 0)
		cookie = next
	}
}
