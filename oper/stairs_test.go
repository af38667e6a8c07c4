package oper_test

import (
	"math"
	"strings"
	"testing"

	"castellan/api"
	"castellan/oper"
	"castellan/schema"
)

// trial is a request that is to be spoiled.
type trial struct {
	*world
	who string
	m   api.Msg
}

// fault spoils a request, so that it comes to that.
type fault struct {
	what, want string
	put        func(x *trial)
}

// stairs: each fault alone comes to what it says, and each with one of those behind it likewise (P25.1: the first one).
func stairs(t *testing.T, good func() *trial, want string, faults ...fault) {
	t.Helper()
	x := good()
	is(t, "without a fault", told(x.ask(x.who, x.m)), want)
	for i, f := range faults {
		x := good()
		f.put(x)
		is(t, f.what, told(x.ask(x.who, x.m)), f.want)
		for _, later := range faults[i+1:] {
			x := good()
			later.put(x)
			f.put(x)
			is(t, f.what+" ahead of "+later.what, told(x.ask(x.who, x.m)), f.want)
		}
	}
}

// noTime is a fault of the time.
func noTime() fault { return fault{"no time", "2", func(x *trial) { x.now = -1 }} }

// named is a fault of the name that a request is of.
func named(what, want, d string) fault {
	return fault{what, want, func(x *trial) { x.m.DN = d }}
}

// by is a fault of who asks.
func by(who, want string) fault { return fault{"by " + who, want, func(x *trial) { x.who = who }} }

// low is somebody who may see, read and compare all, and write nothing.
const low = "cn=low"

// reader is the rule that denies them that.
func reader() api.Rule { return api.Rule{Who: api.Exactly, DN: low, Rights: api.Write} }

// strangely answers what lets a type be of a syntax by which no time is a value.
func strangely(name string) func(*trial) {
	return func(x *trial) {
		x.Schema = changes(typed(name, func(y *api.Type) { y.Syntax = api.Truth }))
	}
}

// P25.1, P25.2: what an AddReq comes to first.
func TestAddStairs(t *testing.T) {
	good := func() *trial {
		return &trial{sample(t, reader(), all()), "-", added("cn=c,ou=x,dc=z", "objectClass:person", "cn:c", "sn:n", "userPassword:p")}
	}
	attr := func(line string) func(x *trial) {
		return func(x *trial) { x.m.Attrs = append(x.m.Attrs, lines(line)...) }
	}
	stairs(t, good, "0, do, added cn=c,ou=x,dc=z [changedAt:7 cn:c createdAt:7 objectClass:person pwdChanged:7 sn:n userPassword:<p@5>], salts 1",
		noTime(),
		named("no name", "34", "cn"),
		named("without RDNs", "32", ""),
		named("no parent", "32, near ou=X,dc=Z", "cn=c,cn=none,ou=x,dc=z"),
		by(low, "50"),
		fault{"an operational one", "19", attr("CREATEDAT:5")},
		fault{"an empty password", "19", attr("USERPASSWORD:q|")},
		fault{"no type", "17", attr("none:5")},
		fault{"what isn't in the stamp's syntax", "21", strangely("createdAt")},
		fault{"without its class", "65", func(x *trial) { x.m.Attrs = x.m.Attrs[1:] }},
		named("another first RDN", "64", "cn=d,ou=x,dc=z"),
		fault{"there already", "68", func(x *trial) { x.put("cn=C,ou=x,dc=z; objectClass:person; cn:c; sn:n") }},
	)
	stairs(t, good, told(good().ask("-", good().m)), fault{"nothing to look at", "32", func(x *trial) { x.View = nil }}, by(low, "50"))
}

// P25.1, P25.3: what a ModifyReq comes to first.
func TestModifyStairs(t *testing.T) {
	good := func() *trial {
		return &trial{sample(t, reader(), all()), "-", modified("CN=a,ou=x,dc=z", "+description:d", "+userPassword:q")}
	}
	mod := func(line string) func(x *trial) { return func(x *trial) { x.m.Mods = append(x.m.Mods, mods(line)...) } }
	stairs(t, good, "0, do, changed cn=A,OU=x,dc=z [changedAt:7 cn:A|other createdAt:1 description:d objectClass:person pwdChanged:7 sn:n userPassword:<q@5>|<p@9>], salts 1",
		noTime(),
		named("no name", "34", "cn=a,,dc=z"),
		named("no entry", "32, near cn=A,OU=x,dc=z", "cn=c,cn=a,ou=x,dc=z"),
		by(low, "50"),
		fault{"an operational one", "19", mod("-changedat")},
		fault{"an empty password", "19", mod("=USERPASSWORD:")},
		fault{"no operation", "2", mod("?cn:a")},
		fault{"what isn't in the stamp's syntax", "21", strangely("changedAt")},
		fault{"another class", "69", mod("=objectClass:organizationalUnit")},
		fault{"not of its class", "65", mod("+uid:u")},
		fault{"without the name's value", "67", mod("-cn:A")},
	)
}

// P25.1, P25.4: what a DeleteReq comes to first.
func TestDeleteStairs(t *testing.T) {
	good := func() *trial { return &trial{sample(t, reader(), all()), "-", deleted("CN=a,ou=x,dc=z")} }
	stairs(t, good, "0, do, deleted cn=A,OU=x,dc=z",
		noTime(),
		named("no name", "34", "cn=a, dc=z"),
		named("no entry", "32, near DC=z", "ou=z,dc=z"),
		by(low, "50"),
		named("with some beneath", "66", "ou=x,dc=z"),
	)
}

// P25.1, P25.4: what a MoveReq comes to first.
func TestMoveStairs(t *testing.T) {
	good := func() *trial {
		return &trial{sample(t, reader(), all()), "-", moved("CN=a,ou=x,dc=z", "cn=C", true, "OU=Y,dc=z")}
	}
	rdn := func(what, want, rdn string) fault {
		return fault{what, want, func(x *trial) { x.m.Rdn = rdn }}
	}
	sup := func(what, want, sup string) fault {
		return fault{what, want, func(x *trial) { x.m.HasSup, x.m.Sup = true, sup }}
	}
	stairs(t, good, "0, do, moved cn=A,OU=x,dc=z to cn=C,ou=y,dc=z [changedAt:7 cn:C|other createdAt:1 objectClass:person pwdChanged:2 sn:n userPassword:<p@9>]",
		noTime(),
		named("no name", "34", "cn=a;dc=z"),
		named("no entry", "32, near ou=X,dc=Z", "cn=c,ou=x,dc=z"),
		rdn("no RDN", "34", "cn"),
		sup("no name of a parent", "34", "ou"),
		named("the suffix", "53", "DC=Z"),
		sup("no parent", "32, near ou=y,dc=z", "ou=a,ou=y,dc=z"),
		by(low, "50"),
		rdn("an operational one", "19", "cn=c+CREATEDAT=5"),
		rdn("no type", "17", "none=a"),
		fault{"what isn't in the stamp's syntax", "21", strangely("changedAt")},
		rdn("not of its class", "65", "uid=c"),
		sup("beneath itself", "53", "cn=A,ou=x,dc=z"),
	)
	stairs(t, good, told(good().ask("-", good().m)),
		rdn("no RDN", "34", ""),
		sup("without RDNs", "32", ""),
		by(low, "50"),
		rdn("no value", "21", "active=true"),
		fault{"another one's name", "68", func(x *trial) { x.m.Rdn, x.m.HasSup = "CN=B", false }},
	)
}

// P25.1, P25.5: what a CompareReq comes to first.
func TestCompareStairs(t *testing.T) {
	deny := api.Rule{Who: api.Exactly, DN: low, Rights: api.Compare}
	s := changes(func(s *api.Schema) { s.Classes[4].May = append(s.Classes[4].May, "active", "mail") })
	good := func() *trial {
		w := empty(t, s, deny, all()).put("dc=z; objectClass:domain; dc:z", "cn=a,dc=z; objectClass:person; cn:a; sn:n; active:TRUE; userPassword:<p@1>")
		return &trial{w, "-", compared("CN=A,dc=z", "ACTIVE", "TRUE")}
	}
	stairs(t, good, "6",
		noTime(),
		named("no name", "34", "=,dc=z"),
		named("no entry", "32, near dc=z", "cn=b,dc=z"),
		fault{"no type", "17", func(x *trial) { x.m.Attr = "none" }},
		by(low, "50"),
		fault{"without values", "16", func(x *trial) { x.m.Attr = "mail" }},
		fault{"no value", "21", func(x *trial) { x.m.Text = "true" }},
		fault{"another one", "5", func(x *trial) { x.m.Text = "FALSE" }},
	)
}

// P25.1, P25.6: what a BindReq comes to first.
func TestBindStairs(t *testing.T) {
	good := func() *trial { return &trial{sample(t), "-", bound("CN=a,ou=x,dc=z", "p")} }
	empty := func(x *trial) { x.m.Text = "" }
	version := func(x *trial) { x.m.Version = 2 }
	sasl := func(x *trial) { x.m.Sasl = true }
	stairs(t, good, "0, who cn=A,OU=x,dc=z",
		noTime(),
		fault{"version 2", "2", version},
		fault{"other ways", "7", sasl},
		named("no name", "34", "cn"),
		fault{"without RDNs and a password", "0", func(x *trial) { x.m.DN, x.m.Text = "", "" }},
		fault{"without a password", "53", empty},
		fault{"who may all", "49", func(x *trial) { x.m.DN, x.m.Text = root, "p" }},
		named("no entry", "49", "cn=c,ou=x,dc=z"),
	)
	stairs(t, good, "0, who cn=A,OU=x,dc=z", named("without RDNs", "49", ""), fault{"by one who may all", "0, who cn=A,OU=x,dc=z", func(x *trial) { x.who = root }})
	stairs(t, good, "0, who cn=A,OU=x,dc=z", fault{"who may all", "0, who CN=ROOT", func(x *trial) { x.m.DN, x.m.Text = "CN=ROOT", "s" }})
}

// P25.1, P25.7: what a WhoAmI and a Passwd come to first.
func TestExtendedStairs(t *testing.T) {
	good := func() *trial { return &trial{sample(t), "cn=low", extended(oper.WhoAmI)} }
	stairs(t, good, "0, value dn:cn=low",
		noTime(),
		fault{"another one", "2", func(x *trial) { x.m.OID = "1" }},
		fault{"a value", "2", func(x *trial) { x.m.Has = true }},
		by("-", "0"),
	)
	good = func() *trial {
		return &trial{sample(t, reader(), all()), "-", passwd("0CN=a,ou=x,dc=z", "1p", "2new")}
	}
	to := func(what, want string, parts ...string) fault {
		return fault{what, want, func(x *trial) { x.m.Value = said(parts...) }}
	}
	stairs(t, good, "0, do, changed cn=A,OU=x,dc=z [changedAt:7 cn:A|other createdAt:1 objectClass:person pwdChanged:7 sn:n userPassword:<new@5>], salts 1",
		noTime(),
		fault{"no element", "2", func(x *trial) { x.m.Value = "" }},
		to("no name", "34", "0cn", "1q"),
		to("without RDNs", "53", "0", "1q"),
		to("no entry", "32, near ou=X,dc=Z", "0cn=c,ou=x,dc=z", "1q"),
		by(low, "50"),
		to("another old one", "49", "0cn=a,ou=x,dc=z", "1q"),
		to("without a new one", "53", "0cn=a,ou=x,dc=z", "1p"),
		to("an empty new one", "19", "0cn=a,ou=x,dc=z", "1p", "2"),
		fault{"no type", "17", func(x *trial) { x.Schema = changes(without("userPassword")) }},
		fault{"what isn't in the stamp's syntax", "21", strangely("changedAt")},
		to("not of its class", "65", "0dc=z", "2new"),
	)
}

// P25.1: operations that no chapter's promise names, whatever they have.
func TestOtherOps(t *testing.T) {
	w := sample(t)
	for _, op := range []int{1, 2, 3, 4, 5, 7, 9, 11, 13, 15, 16, 17, 22, 24, 25, 255, -1, math.MaxInt, math.MinInt} {
		m := bound(root, "s")
		m.Op = op
		w.wants("another operation", root, m, "2")
		m.DN, m.Attrs, m.Mods, m.OID = "dc=z", lines("dc:z"), mods("=dc:z"), oper.WhoAmI
		w.wants("another operation", root, m, "2")
	}
}

// requests answers one of each operation that can be done.
func requests() map[string]api.Msg {
	return map[string]api.Msg{
		"add":     added("ou=n,dc=z", "objectClass:organizationalUnit", "ou:n"),
		"modify":  modified("ou=y,dc=z", "+description:d"),
		"delete":  deleted("ou=y,dc=z"),
		"move":    moved("ou=y,dc=z", "ou=n", true),
		"compare": compared("ou=y,dc=z", "ou", "Y"),
		"bind":    bound(root, "s"),
		"who":     extended(oper.WhoAmI),
		"passwd":  passwd("0cn=b,ou=x,dc=z", "2new"),
	}
}

// P25.1: times at their ends.
func TestTimes(t *testing.T) {
	for what, m := range requests() {
		for _, now := range []int64{-1, math.MinInt64, api.MaxTime + 1, math.MaxInt64} {
			w := sample(t)
			w.now = now
			w.wants(what+" at no time", root, m, "2")
		}
		for _, now := range []int64{0, 1, api.MaxTime} {
			w := sample(t)
			w.now = now
			a := w.ask(root, m)
			is(t, what+" at a time", a.Code == api.Success || a.Code == api.CompareTrue, true)
			stamped := strings.Contains(told(a), "changedAt:"+map[int64]string{0: "0", 1: "1", api.MaxTime: "9007199254740991"}[now]+" ")
			is(t, what+" at a time: stamped", stamped, a.Do && a.U.Kind != api.Deleted)
		}
	}
}

// P1: nothing to look at, nothing to look by, schemas and policies that may not be.
func TestStrange(t *testing.T) {
	for what, m := range requests() {
		w := sample(t)
		for _, env := range []oper.Env{
			{}, {View: w.View}, {Schema: w.Schema}, {Book: w.Book}, {View: w.View, Schema: w.Schema}, {View: w.View, Book: w.Book}, {Schema: w.Schema, Book: w.Book},
			{View: w.View, Book: w.Book, Schema: api.Schema{Types: []api.Type{{}, {Name: "cn", Syntax: -1}, {Name: "CN"}}, Classes: []api.Class{{Name: "person", Sup: "person"}}}},
			{View: w.View, Book: w.Book, Schema: w.Schema, Policy: api.Policy{Fails: -1, Window: math.MinInt64, Lock: math.MaxInt64, Age: -5}, Admin: api.DN{{}}},
		} {
			for _, who := range []api.DN{nil, name(root), name("cn=b,ou=x,dc=z"), {{}}, {{{Type: "", Value: ""}}}, make(api.DN, 40)} {
				a := oper.Do(env, who, m, 7, 5)
				is(t, what+": an update without what is to be done", a.Do, a.U.Kind != 0)
			}
		}
	}
	w := sample(t)
	w.View = nil
	w.wants("add without entries, of no name", root, added(""), "32")
	w.wants("bind without entries", "-", bound("cn=a,ou=x,dc=z", "p"), "49")
	w.wants("bind without entries, who may all", "-", bound(root, "s"), "0, who cn=root")
	w = sample(t)
	w.Book = nil
	w.wants("bind without a book", "-", bound("cn=a,ou=x,dc=z", "p"), "0, who cn=A,OU=x,dc=z")
	w.wants("who may all, without a book", root, deleted("ou=y,dc=z"), "32")
}

// The operations' numbers, as others know them.
func TestConstants(t *testing.T) {
	is(t, "Passwd", oper.Passwd, "1.3.6.1.4.1.4203.1.11.1")
	is(t, "WhoAmI", oper.WhoAmI, "1.3.6.1.4.1.4203.1.11.3")
	is(t, "the schema", schema.Check(schema.Core()), api.OK)
}
