package server_test

import (
	"fmt"
	"math/rand"
	"strings"
	"testing"

	"castellan/api"
	"castellan/conn"
	"castellan/disk"
	"castellan/pass"
	"castellan/server"
)

// The document's ten examples of the whole.
func TestTenExamples(t *testing.T) {
	w := opened(t, disk.New(300), config(), 0)
	// 1
	w.wants("bind as the one who may all", 0, bound("cn=root", "s"), "bind 0")
	w.wants("the suffix", 0, added("dc=z", "objectClass:domain", "dc:z"), "add 0")
	// 2
	w.wants("sn lacks", 0, added("cn=a,dc=z", "objectClass:person", "cn:a"), "add 65")
	w.wants("with sn", 0, added("cn=a,dc=z", "objectClass:person", "cn:a", "sn:x", "userPassword:p"), "add 0")
	w.wants("what is kept", 0, searched("cn=a,dc=z", 0, "(cn=a)", "userPassword"), "entry cn=a,dc=z [userPassword:<p@0>]", "search 0")
	// 3
	w.wants("no right", 1, added("cn=b,dc=z", "objectClass:person", "cn:b", "sn:x"), "add 50")
	w.wants("one entry", 1, searched("dc=z", 2, "(cn=A)", "sn"), "entry cn=a,dc=z [sn:x]", "search 0")
	// 4
	for _, password := range []string{"q", "q", "p"} {
		w.wants("bind with "+password, 1, bound("CN=A,dc=z", password), "bind 49")
	}
	is(t, "Tick", w.Tick(10), api.OK)
	w.wants("ten ticks later", 1, bound("CN=A,dc=z", "p"), "bind 0")
	w.wants("who am I", 1, whoAmI(), "extended 0 value (dn:cn=a,dc=z)")
	// 5 (without any cn it is ClassViolation, by the letter of P25.3 and P15.1)
	w.wants("delete cn a", 0, modified("cn=a,dc=z", "+cn:b", "-cn:a"), "modify 67")
	w.wants("delete cn a alone", 0, modified("cn=a,dc=z", "-cn:a"), "modify 65")
	w.wants("add description d", 0, modified("cn=a,dc=z", "+description:d"), "modify 0")
	w.wants("twice", 0, modified("cn=a,dc=z", "+description:d"), "modify 20")
	// 6
	w.wants("delete dc=z", 0, deleted("dc=z"), "delete 66")
	w.wants("rename", 0, moved("cn=a,dc=z", "cn=b"), "move 0")
	w.wants("its cn", 0, searched("cn=b,dc=z", 0, "(sn=x)", "cn"), "entry cn=b,dc=z [cn:b]", "search 0")
	// 7
	m := searched("dc=z", 2, "(objectClass=*)", "dc", "cn")
	w.wants("a page", 1, paged(m, 1, ""), "entry dc=z [dc:z]", "search 0"+next(1))
	w.wants("the next one", 1, paged(m, 1, numbered(1)), "entry cn=b,dc=z [cn:b]", "search 0"+done)
	w.wants("the same again", 1, paged(m, 1, numbered(1)), "search 53")
	// 8
	out, e := w.Feed(2, "\x30\x80")
	is(t, "the notice", out, conn.Notice())
	is(t, "the error", e, api.OK)
	is(t, "closed", w.Closed(2), true)
	w.wants("connection 1 goes on", 1, whoAmI(), "extended 0 value (dn:cn=a,dc=z)")
	// 9
	c := added("cn=c,dc=z", "objectClass:person", "cn:c", "sn:x")
	w.disk.Limit(0)
	w.wants("the disk full", 0, c, "add 80")
	w.wants("nothing is there", 0, searched("cn=c,dc=z", 0, "(cn=c)"), "search 32 near dc=z")
	w.disk.Limit(300)
	w.wants("with room", 0, c, "add 0")
	// 10
	told := entries(w.View())
	d := w.disk
	d.Cut(2, api.Loss{Torn: -1})
	out, e = w.Feed(0, bytesOf(numberedAs(5, added("cn=d,dc=z", "objectClass:person", "cn:d", "sn:x"))))
	is(t, "the power fails", e, api.ErrPower)
	is(t, "what is told", out, "")
	d.On()
	is(t, "the entry isn't there", entries(opened(t, d, config(), 10).View()), told)
	w = opened(t, d, config(), 10)
	w.does(0, bound("cn=root", "s"))
	d.Cut(2, api.Loss{Keep: 1<<64 - 1, Torn: -1})
	_, e = w.Feed(0, bytesOf(numberedAs(5, added("cn=d,dc=z", "objectClass:person", "cn:d", "sn:x"))))
	is(t, "the power fails", e, api.ErrPower)
	d.On()
	is(t, "the entry is there", opened(t, d, config(), 10).View().Find(name("cn=d,dc=z")) > 0, true)
}

// The examples of the server's chapter: a byte 31 on a connection.
func TestExample(t *testing.T) {
	w := opened(t, disk.New(40), config(), 0)
	w.wants("the root entry", 5, searched("", 0, "(objectClass=*)", "namingContexts"), "entry  [namingContexts:dc=z]", "search 0")
	out, _ := w.Feed(5, "\x31")
	is(t, "the notice", out, conn.Notice())
	for k := range api.MaxConns {
		is(t, "closed", w.Closed(k), k == 5)
	}
}

// P6: rules that deny: nothing of it is told, in whatever way it is asked for.
func TestKept(t *testing.T) {
	w := sample(t,
		ruled(api.Rule{Attr: "userPassword", Rights: 15}, api.Rule{Where: "cn=b,ou=x,dc=z", Rights: 15}, api.Rule{Where: "cn=c,ou=x,dc=z", Attr: "sn", Rights: 4}, api.Rule{Who: api.Self, Attr: "description", Rights: 8, Allow: true}, api.Rule{Rights: 7, Allow: true}))
	w.does(1, bound("cn=a,ou=x,dc=z", "p"))
	for _, k := range []int{1, 2} {
		for _, filter := range []string{"(userPassword=*)", "(!(userPassword=*))", "(cn=*)", "(cn=b)", "(sn=n)", "(sn=m)", "(objectClass=person)"} {
			for _, names := range [][]string{nil, {"*", "+"}, {"userPassword"}} {
				out := w.ask(k, searched("dc=z", 2, filter, names...))
				is(t, filter+": what is denied", strings.Contains(out, "userPassword") || strings.Contains(out, "cn=b"), false)
			}
		}
		w.wants("what isn't seen", k, searched("cn=b,ou=x,dc=z", 0, "(cn=b)"), "search 32 near ou=X,dc=Z")
		w.wants("what isn't held against", k, searched("ou=x,dc=z", 1, "(sn=n)", "sn"), "entry cn=A,OU=x,dc=z [sn:n]", "search 0")
		w.wants("compare", k, compared("cn=c,ou=x,dc=z", "sn", "n"), "compare 50")
		w.wants("compare a password", k, compared("cn=a,ou=x,dc=z", "userPassword", "p"), "compare 50")
		w.wants("compare what isn't seen", k, compared("cn=b,ou=x,dc=z", "sn", "n"), "compare 32 near ou=X,dc=Z")
		before := entries(w.View())
		for _, m := range []api.Msg{added("cn=d,dc=z", "objectClass:person", "cn:d", "sn:n"), deleted("cn=c,ou=x,dc=z"), moved("cn=c,ou=x,dc=z", "cn=d"), modified("cn=c,ou=x,dc=z", "+description:d"), modified("cn=a,ou=x,dc=z", "+sn:d")} {
			is(t, "no right", strings.HasSuffix(w.ask(k, m), " 50"), true)
		}
		is(t, "nothing has changed", entries(w.View()), before)
	}
}

// P1, P7: any bytes: each call ends, what is answered are responses, and other connections stay as they are.
func TestAnyBytes(t *testing.T) {
	r := chance{rand.New(rand.NewSource(1))}
	p := newPlain(t, config(), 0)
	w := opened(t, newDisk(), config(), 0)
	add := bytesOf(numberedAs(1, bound("cn=root", "s")), numberedAs(1, added("dc=z", "objectClass:domain", "dc:z")), numberedAs(1, added("cn=a,dc=z", "objectClass:person", "cn:a", "sn:n", "userPassword:p")))
	w.Feed(0, add)
	p.feed(0, add)
	notices := 0
	for range 4000 {
		s := []byte(bytesOf(r.msg(p, 1), r.msg(p, 1)))
		for range r.Intn(3) {
			s[r.Intn(len(s))] = []byte{0, 1, 2, 4, 48, 66, 127, 128, 129, 130, 132, 133, 255}[r.Intn(13)]
		}
		out, e := w.Feed(1, string(s))
		is(t, fmt.Sprintf("the error of %q", s), e, api.OK)
		is(t, fmt.Sprintf("what is told of %q", s), saying(t, out), saying(t, p.feed(1, string(s))))
		is(t, "Closed", w.Closed(1), p.lines[1].closed)
		is(t, "others", w.Closed(0) || w.Closed(2), false)
		if strings.HasSuffix(out, conn.Notice()) {
			notices++
		}
		w.Renew(1)
		p.renew(1)
	}
	is(t, "the entries", entries(w.View()), entries(p.View))
	if notices < 500 {
		t.Errorf("too few notices: %d", notices)
	}
}

// P1: bytes that are long, in many parts, and deep; requests that are as long as may be.
func TestLong(t *testing.T) {
	w := sample(t)
	deep := filterOf("(cn=a)")
	for range 50 {
		deep = api.Filter{Kind: api.Not, Kids: []api.Filter{deep}}
	}
	m := searched("dc=z", 2, "(cn=a)", "none")
	m.Filter = deep
	w.wants("a deep filter", 1, m, "entry cn=A,OU=x,dc=z []", "search 0")
	m.Filter = api.Filter{Kind: api.Or}
	for range api.MaxNodes - 1 {
		m.Filter.Kids = append(m.Filter.Kids, filterOf("(cn=b)"))
	}
	w.wants("a wide filter", 1, m, "entry cn=b,ou=x,dc=z []", "search 0")
	long := extended("1.2", strings.Repeat("v", api.MaxPdu-len("\x02\x01\x05")-len("\x77\x83...\x80\x031.2\x81\x83...")))
	w.wants("as long as may be", 1, long, "extended 2")
	out, e := w.Feed(1, "\x30\x83\x10\x00\x01")
	is(t, "longer", fmt.Sprint(out == conn.Notice(), e), "true error 0")
	var parts []string
	for _, c := range []byte(bytesOf(numberedAs(5, whoAmI()))) {
		parts = append(parts, string([]byte{c}), "")
	}
	out, e = w.Feed(2, parts...)
	is(t, "in many parts", saying(t, out), "5 extended 0 value ()")
	many := strings.Repeat(bytesOf(numberedAs(5, whoAmI())), 3000)
	out, e = w.Feed(2, many)
	is(t, "many at once", len(read(t, out)), 3000)
	is(t, "the error", e, api.OK)
}

// P1: configurations of any sort, and disks.
func TestAnyConfig(t *testing.T) {
	r := chance{rand.New(rand.NewSource(2))}
	good := 0
	for range 3000 {
		c := r.config()
		c.Rules = append(c.Rules, all())
		for range r.Intn(3) {
			faults[r.Intn(len(faults))].spoil(&c)
		}
		e := server.Check(c)
		s, opened := server.Open(disk.New(r.Intn(8)), c, int64(r.Intn(3))-1)
		is(t, "no server", s == nil, opened != api.OK)
		if e != api.OK {
			is(t, "Open's error", opened, e)
		} else if opened == api.OK {
			good++
		}
	}
	if good < 200 {
		t.Errorf("too few servers: %d", good)
	}
}

// P5: what is kept of a password is no password: nobody binds by it, unless it is that of the one who may all.
func TestKeptIsNone(t *testing.T) {
	w := sample(t)
	kept, _ := pass.Make("p", 0)
	w.wants("what is kept", 1, bound("cn=a,ou=x,dc=z", kept), "bind 49")
	w.wants("the password", 1, bound("cn=a,ou=x,dc=z", "p"), "bind 0")
	w.wants("the password of the one who may all, as somebody else", 1, bound("cn=b,ou=x,dc=z", "s"), "bind 49")
	w = opened(t, newDisk(), config(func(c *api.Config) { c.Admin, c.Password = "", "" }), 0)
	w.wants("where nobody may all", 0, bound("cn=root", "s"), "bind 49")
	w.wants("nobody known", 0, bound("", ""), "bind 0")
	w.wants("nobody known may nothing", 0, added("dc=z", "objectClass:domain", "dc:z"), "add 50")
	w = opened(t, newDisk(), config(func(c *api.Config) { c.Password = "" }), 0)
	w.wants("without a password", 0, bound("cn=root", ""), "bind 53")
	w.wants("with some", 0, bound("cn=root", "s"), "bind 49")
}
