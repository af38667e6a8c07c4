package server_test

import (
	"fmt"
	"math"
	"strings"
	"testing"

	"castellan/api"
	"castellan/disk"
	"castellan/oper"
	"castellan/page"
)

// newDisk answers a disk that is large enough for all tests.
func newDisk() *disk.Disk { return disk.New(2000) }

// P28.5: what layer 24 finds: by who asks, by the scope, the filter, the names and the limits.
func TestSearch(t *testing.T) {
	w := sample(t, ruled(api.Rule{Who: api.Exactly, DN: "cn=a,ou=x,dc=z", Where: "cn=c,ou=x,dc=z", Rights: 15}, api.Rule{Who: api.Known, Attr: "sn", Rights: 4, Allow: false}, api.Rule{Rights: 7, Allow: true}))
	w.does(1, bound("cn=a,ou=x,dc=z", "p"))
	a, b, c := "entry cn=A,OU=x,dc=z ", "entry cn=b,ou=x,dc=z ", "entry cn=c,ou=x,dc=z "
	for _, x := range []struct {
		what string
		k    int
		m    api.Msg
		want []string
	}{
		{"the entry alone", 2, searched("DC=Z", 0, "(objectClass=*)", "dc"), []string{"entry DC=z [dc:z]", "search 0"}},
		{"one level", 2, searched("DC=Z", 1, "(objectClass=*)", "ou"), []string{"entry ou=X,dc=Z [ou:X]", "search 0"}},
		{"all", 2, searched("DC=Z", 2, "(sn=n)", "sn"), []string{a + "[sn:n]", c + "[sn:n]", "search 0"}},
		{"by the one who may all", 0, searched("DC=Z", 2, "(sn=n)", "sn"), []string{a + "[sn:n]", c + "[sn:n]", "search 0"}},
		{"by somebody who may not compare", 1, searched("DC=Z", 2, "(sn=n)", "sn"), []string{"search 0"}},
		{"by somebody who may not see", 1, searched("DC=Z", 2, "(cn=*)", "sn"), []string{a + "[sn:n]", b + "[sn:m]", "search 0"}},
		{"beneath what isn't seen", 1, searched("cn=c,ou=x,dc=z", 0, "(cn=*)"), []string{"search 32 near ou=X,dc=Z"}},
		{"all attributes of users", 2, searched("cn=b,ou=x,dc=z", 0, "(cn=*)"), []string{b + "[cn:b objectClass:person sn:m]", "search 0"}},
		{"all others", 2, searched("cn=b,ou=x,dc=z", 0, "(cn=*)", "+"), []string{b + "[changedAt:0 createdAt:0]", "search 0"}},
		{"a filter that can't be told", 2, searched("dc=z", 2, "(none=x)"), []string{"search 0"}},
		{"a name that is none", 2, searched("dc=z,", 2, "(cn=x)"), []string{"search 34"}},
		{"a long name", 2, searched(strings.Repeat("l", 5000), 0, "(cn=x)"), []string{"search 34"}},
	} {
		w.wants(x.what, x.k, x.m, x.want...)
	}
	m := searched("dc=z", 2, "(cn=*)", "cn")
	m.TypesOnly = true
	w.wants("types alone", 2, m, a+"[cn:]", b+"[cn:]", c+"[cn:]", "search 0")
	m.TypesOnly, m.Size = false, 2
	w.wants("a size", 2, m, a+"[cn:A|other]", b+"[cn:b]", "search 4")
	m.Size = 3
	w.wants("a size that is enough", 2, m, a+"[cn:A|other]", b+"[cn:b]", c+"[cn:c]", "search 0")
	m.Size, m.Deref = math.MaxInt32, 3
	w.wants("the greatest size", 2, m, a+"[cn:A|other]", b+"[cn:b]", c+"[cn:c]", "search 0")
}

// many lets there be so many persons beneath ou=x, named by three digits.
func (w *world) many(count int) {
	w.Helper()
	for i := range count {
		w.does(0, added(fmt.Sprintf("cn=%03d,ou=x,dc=z", i), "objectClass:person", fmt.Sprintf("cn:%03d", i), "sn:n"))
	}
}

// P28.5: the time: so many entries are gone through, whatever the index tells.
func TestTime(t *testing.T) {
	for _, indexed := range [][]string{nil, {"cn"}} {
		w := sample(t, func(c *api.Config) { c.Indexed = indexed })
		w.many(250)
		m := searched("dc=z", 2, "(|(cn=097)(cn=098)(cn=198))", "none")
		m.Time = 1
		w.wants("one", 1, m, "entry cn=097,ou=x,dc=z []", "search 3")
		m.Time = 2
		w.wants("two", 1, m, "entry cn=097,ou=x,dc=z []", "entry cn=098,ou=x,dc=z []", "search 3")
		m.Time = 3
		w.wants("three", 1, m, "entry cn=097,ou=x,dc=z []", "entry cn=098,ou=x,dc=z []", "entry cn=198,ou=x,dc=z []", "search 0")
		m.Time = 1
		w.wants("in pages", 1, paged(m, 1, ""), "entry cn=097,ou=x,dc=z []", "search 3"+done)
		m.Time = 2
		w.wants("in pages", 1, paged(m, 1, ""), "entry cn=097,ou=x,dc=z []", "search 0"+next(1))
		w.wants("the last page", 1, paged(m, 1, numbered(1)), "entry cn=098,ou=x,dc=z []", "search 3"+done)
	}
}

// P28.5: a list that is as long as Wide, and a longer one, make no difference.
func TestWide(t *testing.T) {
	for _, wide := range []int{0, 1, 2, 3, 100, math.MaxInt} {
		w := sample(t, func(c *api.Config) { c.Wide, c.Indexed = wide, []string{"sn", "cn"} })
		w.wants("two", 1, searched("dc=z", 2, "(sn=n)", "none"), "entry cn=A,OU=x,dc=z []", "entry cn=c,ou=x,dc=z []", "search 0")
		w.wants("none", 1, searched("dc=z", 2, "(&(sn=n)(cn=b))", "none"), "search 0")
		w.wants("all", 1, searched("dc=z", 2, "(|(sn=*)(ou=x))", "none"), "entry ou=X,dc=Z []", "entry cn=A,OU=x,dc=z []", "entry cn=b,ou=x,dc=z []", "entry cn=c,ou=x,dc=z []", "search 0")
	}
}

// P28.5: pages: so many at a time, with a cookie as long as more are behind.
func TestPages(t *testing.T) {
	w := sample(t)
	w.many(5)
	m := searched("dc=z", 2, "(sn=n)", "none")
	all := []string{"000", "001", "002", "003", "004", "A", "c"}
	entry := func(i int) string {
		if all[i] == "A" {
			return "entry cn=A,OU=x,dc=z []"
		}
		return "entry cn=" + all[i] + ",ou=x,dc=z []"
	}
	told := func(from, to int, result string) []string {
		var out []string
		for i := from; i < to; i++ {
			out = append(out, entry(i))
		}
		return append(out, "search 0"+result)
	}
	w.wants("without pages", 1, m, told(0, 7, "")...)
	w.wants("the first three", 1, paged(m, 3, ""), told(0, 3, next(1))...)
	w.wants("two more", 1, paged(m, 2, numbered(1)), told(3, 5, next(2))...)
	w.wants("the first place once more", 1, paged(m, 2, numbered(1)), "search 53")
	w.wants("the last two", 1, paged(m, 2, numbered(2)), told(5, 7, done)...)
	w.wants("the second place once more", 1, paged(m, 2, numbered(2)), "search 53")
	w.wants("the third place, which isn't there", 1, paged(m, 2, numbered(3)), "search 53")
	w.wants("just all", 1, paged(m, 7, ""), told(0, 7, done)...)
	w.wants("more than all", 1, paged(m, math.MaxInt32, ""), told(0, 7, done)...)
	w.wants("all but one", 1, paged(m, 6, ""), told(0, 6, next(3))...)
	w.wants("the last one", 1, paged(m, 6, numbered(3)), told(6, 7, done)...)
	w.wants("none", 1, paged(m, 0, ""), "search 0"+done)
	w.wants("the first one", 1, paged(m, 1, ""), told(0, 1, next(4))...)
	w.wants("none from a place", 1, paged(m, 0, numbered(4)), "search 0"+done)
	w.wants("the place is gone", 1, paged(m, 1, numbered(4)), "search 53")
	w.wants("nothing found", 1, paged(searched("dc=z", 2, "(cn=none)"), 1, ""), "search 0"+done)
	w.wants("nothing found, none asked for", 1, paged(searched("dc=z", 2, "(cn=none)"), 0, ""), "search 0"+done)
}

// P28.5: pages of a search with a size: the code is that of all of it, in the end alone.
func TestPagesSize(t *testing.T) {
	w := sample(t)
	m := searched("dc=z", 2, "(cn=*)", "none")
	m.Size = 2
	w.wants("the first one", 1, paged(m, 1, ""), "entry cn=A,OU=x,dc=z []", "search 0"+next(1))
	w.wants("the last one", 1, paged(m, 1, numbered(1)), "entry cn=b,ou=x,dc=z []", "search 4"+done)
	w.wants("both", 1, paged(m, 2, ""), "entry cn=A,OU=x,dc=z []", "entry cn=b,ou=x,dc=z []", "search 4"+done)
	w.wants("none", 1, paged(m, 0, ""), "search 0"+done)
}

// P28.5: the control: the first such one, whose value is to be read; and what goes ahead of what.
func TestPagesControl(t *testing.T) {
	w := sample(t)
	m, none, bad := searched("ou=x,dc=z", 1, "(sn=n)", "none"), searched("cn=d,cn=b,ou=x,dc=z", 1, "(sn=n)"), searched("dc", 1, "(sn=n)")
	ask := func(value string) api.Control { return api.Control{OID: page.OID, Has: true, Value: value} }
	first, far := []string{"entry cn=A,OU=x,dc=z []", "search 0"}, "search 32 near cn=b,ou=x,dc=z"
	good := page.Answer(1, "")
	for _, value := range []string{"", "\x30\x00", good[:6], good + "\x00", "\x31" + good[1:], "\x30\x05\x02\x01\xff\x04\x00", "\x30\x03\x02\x01\x01"} {
		w.wants("a value that can't be read", 1, with(m, ask(value)), "search 2")
		w.wants("ahead of no entry", 1, with(none, ask(value)), "search 2")
		w.wants("behind no name", 1, with(bad, ask(value)), "search 34")
	}
	w.wants("no value", 1, with(m, common(page.OID)), "search 2")
	w.wants("no value, Critical", 1, with(m, critical(page.OID)), "search 2")
	w.wants("a cookie that is none", 1, paged(m, 1, "x"), "search 53")
	w.wants("a cookie that is none, and no size", 1, paged(m, 0, "x"), "search 53")
	w.wants("ahead of no entry", 1, paged(none, 1, "x"), "search 53")
	w.wants("behind no name", 1, paged(bad, 1, "x"), "search 34")
	w.wants("no entry", 1, paged(none, 1, ""), far)
	w.wants("no entry, and no size", 1, paged(none, 0, ""), far)
	w.wants("no name", 1, paged(bad, 1, ""), "search 34")
	w.wants("the first one", 1, with(m, ask(good), ask("")), first[0], first[1]+next(1))
	w.wants("the first one, behind others", 1, with(m, common("1.2"), ask(""), ask(good)), "search 2")
	w.wants("a length in more bytes", 1, with(m, ask("\x30\x81\x05\x02\x01\x01\x04\x00")), first[0], first[1]+next(2))
	w.wants("the place", 1, with(m, common("1.2"), ask(page.Answer(1, numbered(2)))), "entry cn=c,ou=x,dc=z []", "search 0"+done)
	w.wants("not asked for by others", 1, with(whoAmI(), ask("")), "extended 0 value ()")
	out, e := w.Feed(1, bytesOf(numberedAs(1, paged(m, 1, ""))))
	is(t, "the error", e, api.OK)
	msgs := read(t, out)
	is(t, "its control", fmt.Sprintf("%+v", msgs[1].Controls), fmt.Sprintf("%+v", []api.Control{{OID: "1.2.840.113556.1.4.319", Has: true, Value: "\x30\x0d\x02\x01\x00\x04\x08" + numbered(3)}}))
}

// P28.5, P8: a cookie is good for the same search alone, by the same name, on the same connection.
func TestPagesKey(t *testing.T) {
	base := searched("ou=x,dc=z", 1, "(cn=*)", "none")
	for what, change := range map[string]func(*api.Msg){
		"another spelling": func(m *api.Msg) { m.DN = "ou=X,dc=z" }, "another scope": func(m *api.Msg) { m.Scope = 2 }, "another deref": func(m *api.Msg) { m.Deref = 1 },
		"another size": func(m *api.Msg) { m.Size = 1000 }, "another time": func(m *api.Msg) { m.Time = 1000 }, "types alone": func(m *api.Msg) { m.TypesOnly = true },
		"another filter": func(m *api.Msg) { m.Filter.Attr = "CN" }, "other names": func(m *api.Msg) { m.Names = []string{"none", "none"} },
	} {
		w := sample(t)
		w.wants("a page", 1, paged(base, 1, ""), "entry cn=A,OU=x,dc=z []", "search 0"+next(1))
		m := base
		change(&m)
		w.wants(what, 1, paged(m, 1, numbered(1)), "search 53")
		w.wants("the place is gone", 1, paged(base, 1, numbered(1)), "search 53")
	}
	w := sample(t)
	w.does(1, bound("cn=a,ou=x,dc=z", "p"))
	w.wants("a page", 1, paged(base, 1, ""), "entry cn=A,OU=x,dc=z []", "search 0"+next(1))
	w.wants("another connection", 2, paged(base, 1, numbered(1)), "search 53")
	m := with(paged(base, 2, numbered(1)), common("1.2"))
	m.ID = 77
	is(t, "another ID, size and control", w.ask(1, m), "77 entry cn=b,ou=x,dc=z []; 77 entry cn=c,ou=x,dc=z []; 77 search 0"+done)
	w.wants("a page", 1, paged(base, 1, ""), "entry cn=A,OU=x,dc=z []", "search 0"+next(2))
	w.does(1, bound("", ""))
	w.wants("nobody known", 1, paged(base, 1, numbered(2)), "search 53")
	w.wants("a page", 1, paged(base, 1, ""), "entry cn=A,OU=x,dc=z []", "search 0"+next(3))
	w.does(1, bound("cn=a,ou=x,dc=z", "p"))
	w.wants("somebody", 1, paged(base, 1, numbered(3)), "search 53")
	w.wants("a page", 1, paged(base, 1, ""), "entry cn=A,OU=x,dc=z []", "search 0"+next(4))
	w.does(1, bound("cn=root", "s"))
	w.does(1, bound("cn=a,ou=x,dc=z", "p"))
	w.wants("the same one again", 1, paged(base, 1, numbered(4)), "entry cn=b,ou=x,dc=z []", "search 0"+next(5))
	w.Tick(1)
	w.Salt(1)
	w.wants("later", 1, paged(base, 1, numbered(5)), "entry cn=c,ou=x,dc=z []", "search 0"+done)
}

// P28.5, P8: a cookie isn't good behind an update, of whatever kind; but behind what is none.
func TestPagesVersion(t *testing.T) {
	m := searched("ou=x,dc=z", 1, "(sn=*)", "none")
	for what, ask := range map[string]api.Msg{
		"an add": added("cn=d,dc=z", "objectClass:person", "cn:d", "sn:n"), "a delete": deleted("cn=c,ou=x,dc=z"), "a modify": modified("dc=z", "+description:d"),
		"a move": moved("cn=c,ou=x,dc=z", "cn=d", "dc=z"), "a failure": bound("cn=a,ou=x,dc=z", "q"), "a password": extended(oper.Passwd, "\x30\x15\x80\x0ecn=b,ou=x,dc=z\x82\x03new"),
	} {
		w := sample(t)
		w.wants("a page", 1, paged(m, 1, ""), "entry cn=A,OU=x,dc=z []", "search 0"+next(1))
		w.ask(0, ask)
		w.wants("behind "+what, 1, paged(m, 1, numbered(1)), "search 53")
		w.wants("it is gone", 1, paged(m, 1, numbered(1)), "search 53")
	}
	w := sample(t)
	w.wants("a page", 1, paged(m, 1, ""), "entry cn=A,OU=x,dc=z []", "search 0"+next(1))
	w.wants("what isn't done", 0, added("cn=b,ou=x,dc=z", "objectClass:person", "cn:b", "sn:n"), "add 68")
	w.wants("a bind", 0, bound("cn=a,ou=x,dc=z", "p"), "bind 0")
	w.wants("a bind", 0, bound("cn=root", "s"), "bind 0")
	w.disk.Limit(0)
	w.wants("what doesn't fit the disk", 0, deleted("cn=b,ou=x,dc=z"), "delete 80")
	w.wants("the place is good", 1, paged(m, 2, numbered(1)), "entry cn=b,ou=x,dc=z []", "entry cn=c,ou=x,dc=z []", "search 0"+done)
}

// P28.5: of a connection as many places are kept as layer 26 says; of one that is closed none.
func TestPagesMost(t *testing.T) {
	w := sample(t)
	m := searched("ou=x,dc=z", 1, "(sn=*)", "none")
	for n := range page.Most + 1 {
		w.wants("a page", 1, paged(m, 1, ""), "entry cn=A,OU=x,dc=z []", "search 0"+next(n+1))
	}
	w.wants("another connection", 2, paged(m, 1, ""), "entry cn=A,OU=x,dc=z []", "search 0"+next(6))
	w.wants("the first is gone", 1, paged(m, 1, numbered(1)), "search 53")
	w.wants("the second isn't", 1, paged(m, 2, numbered(2)), "entry cn=b,ou=x,dc=z []", "entry cn=c,ou=x,dc=z []", "search 0"+done)
	w.Feed(1, "\x31")
	w.Renew(1)
	w.wants("of a connection that was closed", 1, paged(m, 1, numbered(3)), "search 53")
	w.wants("of another one", 2, paged(m, 1, numbered(6)), "entry cn=b,ou=x,dc=z []", "search 0"+next(7))
}
