package server_test

import (
	"fmt"
	"math"
	"strings"
	"testing"

	"castellan/api"
	"castellan/disk"
	"castellan/schema"
	"castellan/server"
	"castellan/store"
)

// faults are what may be wrong with a configuration, in the order in which it is told.
var faults = []struct {
	what  string
	spoil func(*api.Config)
	want  api.Errno
}{
	{"too many types", func(c *api.Config) { c.Schema.Types = append(c.Schema.Types, make([]api.Type, 200)...) }, api.ErrMany},
	{"a type that is there twice", func(c *api.Config) { c.Schema.Types[2].Name = "CN" }, api.ErrTwice},
	{"a class without a Sup", func(c *api.Config) { c.Schema.Classes[2].Sup = "" }, api.ErrArg},
	{"a long suffix", func(c *api.Config) { c.Suffix = strings.Repeat("l", api.MaxText+1) }, api.ErrLong},
	{"a suffix that is no name", func(c *api.Config) { c.Suffix = "dc=z," }, api.ErrForm},
	{"a suffix with a type twice", func(c *api.Config) { c.Suffix = "dc=z+DC=z" }, api.ErrTwice},
	{"a suffix without an RDN", func(c *api.Config) { c.Suffix = "" }, api.ErrArg},
	{"an admin that is no name", func(c *api.Config) { c.Admin = "root" }, api.ErrForm},
	{"an admin with too many RDNs", func(c *api.Config) { c.Admin = strings.Repeat("c=a,", api.MaxRdns) + "c=a" }, api.ErrMany},
	{"a rule of another Who", func(c *api.Config) { c.Rules[0].Who = 5 }, api.ErrOp},
	{"a rule of a type that there isn't", func(c *api.Config) { c.Rules[0].Attr = "none" }, api.ErrName},
	{"a rule without rights", func(c *api.Config) { c.Rules[0].Rights = 0 }, api.ErrValue},
	{"a policy with too many failures", func(c *api.Config) { c.Policy.Fails = 101 }, api.ErrArg},
	{"a policy with a time that is none", func(c *api.Config) { c.Policy.Age = -1 }, api.ErrArg},
	{"a type that there isn't indexed", func(c *api.Config) { c.Indexed = []string{"cn", "none"} }, api.ErrName},
	{"a type indexed twice", func(c *api.Config) { c.Indexed = []string{"cn", "sn", "CN"} }, api.ErrTwice},
	{"a width below 0", func(c *api.Config) { c.Wide = -1 }, api.ErrValue},
}

// P28.1: each fault, and, of two, that which is told first. (Two of one thing take the place of each other.)
func TestCheck(t *testing.T) {
	is(t, "without a fault", server.Check(config()), api.OK)
	for i, f := range faults {
		is(t, f.what, server.Check(config(f.spoil)), f.want)
		for _, behind := range faults[i+1:] {
			c := config(behind.spoil, f.spoil)
			is(t, f.what+" and "+behind.what, server.Check(c), f.want)
			s, e := server.Open(disk.New(40), c, -1)
			is(t, f.what+": Open", e, f.want)
			is(t, f.what+": a server", s == nil, true)
		}
	}
}

// P28.1: what may be.
func TestCheckEdges(t *testing.T) {
	for what, change := range map[string]func(*api.Config){
		"nobody who may all": func(c *api.Config) { c.Admin = "" },
		"no password":        func(c *api.Config) { c.Password = "" },
		"no rules":           func(c *api.Config) { c.Rules = nil },
		"nothing indexed":    func(c *api.Config) { c.Indexed = nil },
		"a width of 0":       func(c *api.Config) { c.Wide = 0 },
		"the greatest width": func(c *api.Config) { c.Wide = math.MaxInt },
		"the zero policy":    func(c *api.Config) { c.Policy = api.Policy{} },
		"the greatest policy": func(c *api.Config) {
			c.Policy = api.Policy{Fails: 100, Window: api.MaxTime, Lock: api.MaxTime, Age: api.MaxTime}
		},
		"many RDNs":            func(c *api.Config) { c.Suffix = strings.Repeat("c=a,", api.MaxRdns-1) + "c=a" },
		"the suffix's own":     func(c *api.Config) { c.Admin = c.Suffix },
		"a schema of one type": func(c *api.Config) { c.Schema, c.Indexed = one(), []string{"OBJECTCLASS"} },
	} {
		is(t, what, server.Check(config(change)), api.OK)
		opened(t, disk.New(40), config(change), 0)
	}
	is(t, "none", server.Check(api.Config{}), api.ErrNone)
}

// one answers the schema of one type, without classes.
func one() api.Schema {
	return api.Schema{Types: []api.Type{{Name: "objectClass", Syntax: api.Ascii}}}
}

// P28.2: Open's errors, in their order.
func TestOpenErrors(t *testing.T) {
	refused := func(what string, d *disk.Disk, c api.Config, now int64, want api.Errno) {
		t.Helper()
		s, e := server.Open(d, c, now)
		is(t, what, e, want)
		is(t, what+": a server", s == nil, true)
	}
	off := disk.New(40)
	off.Cut(1, api.Loss{})
	off.Flush()
	bad := config(func(c *api.Config) { c.Wide = -1 })
	for _, now := range []int64{-1, api.MaxTime + 1, math.MinInt64, math.MaxInt64} {
		refused("a configuration that may not be, ahead of the time", off, bad, now, api.ErrValue)
		refused("a time that is none, ahead of the disk", off, config(), now, api.ErrArg)
		refused("a time that is none, ahead of no disk", nil, config(), now, api.ErrArg)
	}
	refused("no disk", nil, config(), 0, api.ErrNil)
	refused("a disk of 3 sectors", disk.New(3), config(), 0, api.ErrArg)
	refused("a disk without power", off, config(), 0, api.ErrPower)
	full := disk.New(40)
	full.Limit(0)
	refused("a disk without room", full, config(), 0, api.ErrFull)
	other := disk.New(40)
	is(t, "another suffix's", laid(other, "dc=y", api.Update{Kind: api.Added, DN: name("dc=y")}), api.OK)
	refused("another suffix's entries", other, config(), 0, api.ErrForm)
	for _, now := range []int64{0, 1, api.MaxTime} {
		is(t, "Now", opened(t, disk.New(40), config(), now).Now(), now)
	}
}

// laid lays a store with updates of a suffix onto a disk.
func laid(d *disk.Disk, suffix string, updates ...api.Update) api.Errno {
	s, e := store.Open(d, name(suffix))
	for _, u := range updates {
		if e == api.OK {
			_, e = s.Do(u)
		}
	}
	return e
}

// P28.2: entries whose attributes aren't in form, wherever they stand.
func TestOpenForm(t *testing.T) {
	good := lines("cn:a|B", "description:x", "objectClass:person")
	for _, c := range []struct {
		what  string
		attrs []api.Attr
		want  api.Errno
	}{
		{"in form", good, api.OK},
		{"without attributes", nil, api.OK},
		{"what fits no class", lines("cn:a", "sn:b"), api.OK},
		{"what no user changes", lines("createdAt:1", "pwdFailure:1.0|2.0"), api.OK},
		{"a type that there isn't", lines("cn:a", "none:x"), api.ErrForm},
		{"a type that is spelt in another way", lines("CN:a"), api.ErrForm},
		{"types that don't rise", lines("objectClass:person", "cn:a"), api.ErrForm},
		{"a type that is there twice", lines("cn:a", "cn:b"), api.ErrForm},
		{"no values", lines("cn"), api.ErrForm},
		{"no values of the last one", lines("cn:a", "sn"), api.ErrForm},
		{"values that don't rise", lines("cn:b|a"), api.ErrForm},
		{"values that don't rise by their normal forms", lines("cn:B|a"), api.ErrForm},
		{"two values that are alike", lines("cn:a|A"), api.ErrForm},
		{"two values of a type that is Single", lines("employeeNumber:1|2"), api.ErrForm},
		{"a value without a normal form", lines("employeeNumber:01"), api.ErrForm},
		{"an empty value of Text", lines("cn:"), api.ErrForm},
	} {
		for _, at := range []string{"dc=z", "ou=b,dc=z", "ou=a,ou=b,dc=z"} {
			d := disk.New(60)
			updates := []api.Update{{Kind: api.Added, DN: name("dc=z"), Attrs: good}, {Kind: api.Added, DN: name("ou=b,dc=z"), Attrs: good}, {Kind: api.Added, DN: name("ou=a,ou=b,dc=z"), Attrs: good}}
			updates = append(updates, api.Update{Kind: api.Changed, DN: name(at), Attrs: c.attrs})
			is(t, "laid", laid(d, "dc=z", updates...), api.OK)
			s, e := server.Open(d, config(), 0)
			is(t, c.what+" at "+at, e, c.want)
			is(t, c.what+": a server", s != nil, e == api.OK)
		}
	}
}

// P28.2: a server has the entries that are on the disk, also in its index, and all connections are open.
func TestOpen(t *testing.T) {
	w := sample(t)
	is(t, "the entries", w.View().Len(), 5)
	want := entries(w.View())
	w.disk.Crash(api.Loss{Torn: -1})
	again := opened(t, w.disk, config(), 77)
	is(t, "the entries", entries(again.View()), want)
	is(t, "the suffix", text(again.View().Suffix()), "dc=z")
	is(t, "Now", again.Now(), 77)
	for k := range api.MaxConns {
		is(t, "Closed", again.Closed(k), false)
		is(t, "Who", text(again.Who(k)), "-")
	}
	again.wants("what the index tells", 63, searched("dc=z", 2, "(cn=OTHER)", "sn"), "entry cn=A,OU=x,dc=z [sn:n]", "search 0")
	again.wants("nobody is bound", 0, added("cn=d,dc=z", "objectClass:person", "cn:d", "sn:n"), "add 50")
	again.wants("the salt is 0 again, the clock not", 0, bound("cn=root", "s"), "bind 0")
	again.does(0, added("cn=d,dc=z", "objectClass:person", "cn:d", "sn:n", "userPassword:p"))
	is(t, "the salt", again.attrsOf("cn=d,dc=z"), "changedAt:77 cn:d createdAt:77 objectClass:person pwdChanged:77 sn:n userPassword:<p@0>")
}

// P28.2: Tick.
func TestTick(t *testing.T) {
	w := opened(t, disk.New(40), config(), 5)
	for _, c := range []struct {
		n    int64
		want api.Errno
		now  int64
	}{
		{0, api.OK, 5}, {3, api.OK, 8}, {-1, api.ErrArg, 8}, {math.MinInt64, api.ErrArg, 8}, {math.MaxInt64, api.ErrArg, 8}, {api.MaxTime, api.ErrArg, 8},
		{api.MaxTime - 7, api.ErrArg, 8}, {api.MaxTime - 8, api.OK, api.MaxTime}, {1, api.ErrArg, api.MaxTime}, {0, api.OK, api.MaxTime}, {math.MaxInt64, api.ErrArg, api.MaxTime},
	} {
		is(t, fmt.Sprint("Tick of ", c.n), w.Tick(c.n), c.want)
		is(t, "Now", w.Now(), c.now)
	}
	w.does(0, bound("cn=root", "s"))
	w.does(0, added("dc=z", "objectClass:domain", "dc:z"))
	is(t, "the clock is that of requests", w.attrsOf("dc=z"), "changedAt:9007199254740991 createdAt:9007199254740991 dc:z objectClass:domain")
}

// P28.2: Renew, Closed and Who, of connections that there are, and of others.
func TestConnections(t *testing.T) {
	w := sample(t)
	w.does(63, bound("cn=a,ou=x,dc=z", "p"))
	is(t, "who is bound", text(w.Who(63)), "cn=A,OU=x,dc=z")
	is(t, "who is bound elsewhere", text(w.Who(0))+text(w.Who(62)), "cn=root-")
	w.Feed(63, bytesOf(whoAmI())[:5])
	is(t, "Renew", w.Renew(63), api.OK)
	is(t, "nobody is bound", text(w.Who(63)), "-")
	w.wants("the bytes that waited are gone", 63, whoAmI(), "extended 0 value ()")
	w.Feed(63, "\x31")
	is(t, "closed", w.Closed(63), true)
	is(t, "Renew", w.Renew(63), api.OK)
	is(t, "open", w.Closed(63), false)
	w.wants("it goes on", 63, whoAmI(), "extended 0 value ()")
	for _, k := range []int{-1, api.MaxConns, math.MinInt, math.MaxInt, 1 << 32} {
		is(t, "Renew of none", w.Renew(k), api.ErrArg)
		is(t, "Closed of none", w.Closed(k), true)
		is(t, "Who of none", text(w.Who(k)), "-")
		out, e := w.Feed(k, bytesOf(whoAmI()))
		is(t, "Feed of none", fmt.Sprint(out, e), "error 2")
	}
}

// P28.2: a connection that is renewed has no places any more, and another one keeps its own.
func TestRenewPlaces(t *testing.T) {
	w := sample(t)
	m := searched("ou=x,dc=z", 1, "(cn=*)", "cn")
	w.wants("a page", 1, paged(m, 1, ""), "entry cn=A,OU=x,dc=z [cn:A|other]", "search 0"+next(1))
	w.wants("a page", 2, paged(m, 1, ""), "entry cn=A,OU=x,dc=z [cn:A|other]", "search 0"+next(2))
	is(t, "Renew", w.Renew(1), api.OK)
	w.wants("no place", 1, paged(m, 1, numbered(1)), "search 53")
	w.wants("a place", 2, paged(m, 1, numbered(2)), "entry cn=b,ou=x,dc=z [cn:b]", "search 0"+next(3))
}

// P28.2: of a nil server.
func TestNil(t *testing.T) {
	var s *server.Server
	out, e := s.Feed(0, bytesOf(whoAmI()))
	is(t, "Feed", fmt.Sprint(out, e), "error 1")
	_, e = s.Feed(-1)
	is(t, "Feed of no connection", e, api.ErrNil)
	is(t, "Tick", s.Tick(1), api.ErrNil)
	is(t, "Tick of less than nothing", s.Tick(-1), api.ErrNil)
	s.Salt(1)
	is(t, "Renew", s.Renew(0), api.ErrNil)
	is(t, "Renew of no connection", s.Renew(64), api.ErrNil)
	is(t, "Closed", s.Closed(0), true)
	is(t, "Who", text(s.Who(0)), "-")
	is(t, "Now", s.Now(), 0)
	is(t, "View", s.View() == nil, true)
	is(t, "its entries", s.View().Len(), 0)
}

// Memory: a configuration is neither changed nor kept, a name that is told is nobody else's.
func TestMemory(t *testing.T) {
	fresh := func() api.Config {
		c := config(ruled(api.Rule{Who: api.Exactly, DN: "cn=a,ou=x,dc=z", Rights: 15, Allow: true}, api.Rule{Rights: 7, Allow: true}))
		c.Indexed = append(c.Indexed, "sn", "spare")[:2]
		c.Schema.Types = append(c.Schema.Types, api.Type{Name: "spare"})[:len(c.Schema.Types)]
		return c
	}
	whole := func(c api.Config) string {
		return fmt.Sprintf("%+v %q %+v", c, c.Indexed[:3], c.Schema.Types[:len(c.Schema.Types)+1])
	}
	c := fresh()
	before := whole(c)
	is(t, "Check", server.Check(c), api.OK)
	w := opened(t, disk.New(2000), c, 0)
	is(t, "the configuration", whole(c), before)
	for i := range c.Schema.Types {
		c.Schema.Types[i] = api.Type{Name: "spoilt", Syntax: 99}
	}
	for i := range c.Schema.Classes {
		x := &c.Schema.Classes[i]
		for j := range x.Must {
			x.Must[j] = "spoilt"
		}
		for j := range x.May {
			x.May[j] = "spoilt"
		}
		x.Name, x.Kind = "spoilt", 99
	}
	c.Rules[0], c.Rules[1] = api.Rule{}, api.Rule{}
	c.Indexed[0] = "spoilt"
	w.does(0, bound("cn=root", "s"))
	w.does(0, added("dc=z", "objectClass:domain", "dc:z"))
	w.does(0, added("ou=x,dc=z", "objectClass:organizationalUnit", "ou:x"))
	w.does(0, added("cn=a,ou=x,dc=z", "objectClass:person", "cn:a", "sn:n", "userPassword:p"))
	w.wants("by the rules", 1, deleted("cn=a,ou=x,dc=z"), "delete 50")
	w.wants("by the index", 1, searched("dc=z", 2, "(cn=A)", "sn"), "entry cn=a,ou=x,dc=z [sn:n]", "search 0")
	types, _ := schema.Lines(schema.Core())
	w.wants("by the schema", 1, searched("cn=subschema", 0, "(cn=*)", "attributetypes"), "entry cn=subschema [attributeTypes:"+strings.Join(types, "|")+"]", "search 0")
	w.does(1, bound("cn=a,ou=x,dc=z", "p"))
	who := w.Who(1)
	who[0][0].Value, who[1] = "spoilt", nil
	is(t, "who is bound", text(w.Who(1)), "cn=a,ou=x,dc=z")
	parts := []string{bytesOf(whoAmI())[:4], "spare", "spare"}
	w.Feed(1, parts[:1]...)
	is(t, "the parts", strings.Join(parts[1:], " "), "spare spare")
}
