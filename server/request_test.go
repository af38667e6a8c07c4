package server_test

import (
	"fmt"
	"math"
	"testing"

	"castellan/api"
	"castellan/oper"
	"castellan/page"
)

// P28.4: each request has one result, of its own operation, with its ID, a code and perhaps a name.
func TestResults(t *testing.T) {
	for _, c := range []struct {
		m    api.Msg
		want string
	}{
		{bound("cn=root", "s"), "bind 0"},
		{bound("cn=root", "wrong"), "bind 49"},
		{bound("cn", "s"), "bind 34"},
		{bound("cn=root", ""), "bind 53"},
		{api.Msg{Op: api.BindReq, Version: 2}, "bind 2"},
		{api.Msg{Op: api.BindReq, Version: 3, Sasl: true, Mech: "PLAIN"}, "bind 7"},
		{searched("dc=z", 0, "(dc=x)"), "search 0"},
		{searched("cn=d,cn=b,ou=x,DC=Z", 0, "(dc=x)"), "search 32 near cn=b,ou=x,dc=z"},
		{searched("dc=y", 2, "(dc=x)"), "search 32"},
		{searched("dc", 0, "(dc=z)"), "search 34"},
		{modified("dc=z", "+description:d"), "modify 0"},
		{modified("ou=none,dc=z", "+description:d"), "modify 32 near DC=z"},
		{modified("cn=A,ou=x,dc=z", "-cn:A"), "modify 67"},
		{added("cn=d,ou=x,dc=z", "objectClass:person", "cn:d", "sn:n"), "add 0"},
		{added("cn=d,ou=none,ou=x,dc=z", "objectClass:person"), "add 32 near ou=X,dc=Z"},
		{added("cn=d,ou=x,dc=z", "objectClass:person", "cn:d"), "add 65"},
		{deleted("cn=b,ou=x,dc=z"), "delete 0"},
		{deleted("dc=z"), "delete 66"},
		{deleted("cn=none,dc=z"), "delete 32 near DC=z"},
		{moved("cn=b,ou=x,dc=z", "cn=e"), "move 0"},
		{moved("cn=b,ou=x,dc=z", "cn=e", "ou=y,dc=z"), "move 32 near DC=z"},
		{moved("dc=z", "cn=e"), "move 53"},
		{compared("dc=z", "dc", "Z"), "compare 6"},
		{compared("dc=z", "dc", "y"), "compare 5"},
		{compared("cn=none,ou=x,dc=z", "cn", "y"), "compare 32 near ou=X,dc=Z"},
		{whoAmI(), "extended 0 value (dn:cn=root)"},
		{extended(oper.WhoAmI, ""), "extended 2"},
		{extended("1.2"), "extended 2"},
		{extended(oper.Passwd), "extended 32"},
		{extended(oper.Passwd, "\x30\x16\x80\x0fcn=b,ou=x,dc=z\x20\x82\x03new"), "extended 34"},
		{extended(oper.Passwd, "\x30\x15\x80\x0ecn=b,ou=x,dc=z\x82\x03new"), "extended 0"},
		{extended(oper.Passwd, "\x30\x15\x80\x0ecn=b,ou=x,dc=y\x82\x03new"), "extended 32"},
		{api.Msg{Op: api.AbandonReq, Target: 5}, ""},
	} {
		w := sample(t)
		for _, id := range []int{1, 5, 200, math.MaxInt32} {
			again := sample(t)
			want := fmt.Sprint(id, " ", c.want)
			if c.want == "" {
				want = ""
			}
			is(t, fmt.Sprintf("%+v", c.m), again.ask(0, numberedAs(id, c.m)), want)
		}
		w.ask(0, c.m)
		is(t, "the connection is open", w.Closed(0), false)
	}
}

// P28.4: updates are done, and found by the index from then on.
func TestUpdates(t *testing.T) {
	w := sample(t)
	w.Tick(7)
	found := func(what, filter string, want ...string) {
		t.Helper()
		var list []string
		for _, d := range want {
			list = append(list, "entry "+d+" []")
		}
		w.wants(what, 1, searched("dc=z", 2, filter, "none"), append(list, "search 0")...)
	}
	found("ahead", "(cn=d)")
	w.does(0, added("CN=D+sn=x,ou=x,dc=z", "objectClass:person", "cn:d", "sn:X"))
	is(t, "what is added", w.attrsOf("cn=d+SN=x,ou=x,dc=z"), "changedAt:7 cn:d createdAt:7 objectClass:person sn:X")
	found("added", "(cn=D)", "CN=D+sn=x,ou=x,dc=z")
	w.does(0, modified("cn=c,ou=x,dc=z", "+cn:d", "=sn:q"))
	is(t, "what is modified", w.attrsOf("cn=c,ou=x,dc=z"), "changedAt:7 cn:c|d createdAt:0 objectClass:person sn:q")
	found("modified", "(cn=d)", "cn=c,ou=x,dc=z", "CN=D+sn=x,ou=x,dc=z")
	w.does(0, deleted("cn=d+sn=x,ou=x,dc=z"))
	found("deleted", "(cn=d)", "cn=c,ou=x,dc=z")
	w.does(0, moved("cn=c,ou=x,dc=z", "cn=e", "dc=z"))
	is(t, "what is moved", w.attrsOf("cn=e,dc=z"), "changedAt:7 cn:d|e createdAt:0 objectClass:person sn:q")
	found("moved", "(cn=e)", "cn=e,DC=z")
	found("moved, by the name it had", "(cn=c)")
	w.does(0, moved("ou=x,dc=z", "ou=y"))
	found("moved with what lies under it", "(cn=b)", "cn=b,ou=y,DC=z")
	w.does(0, modified("cn=b,ou=y,dc=z", "+cn:e"))
	found("modified behind that", "(cn=e)", "cn=e,DC=z", "cn=b,ou=y,DC=z")
	w.does(0, deleted("cn=b,ou=y,dc=z"))
	found("deleted behind that", "(cn=e)", "cn=e,DC=z")
}

// P28.4: nothing comes of an AbandonReq, whatever it has.
func TestAbandon(t *testing.T) {
	w := sample(t)
	for _, m := range []api.Msg{{Op: api.AbandonReq}, {Op: api.AbandonReq, Target: math.MaxInt32}, {Op: api.AbandonReq, Controls: []api.Control{critical("1.2"), critical(page.OID)}}} {
		w.wants("Abandon", 0, m)
	}
	is(t, "who is bound", text(w.Who(0)), "cn=root")
}

// P28.4: a control that is Critical, of each operation, wherever it stands; and such as aren't.
func TestCritical(t *testing.T) {
	kinds := map[string]api.Msg{
		"bind": bound("cn=root", "s"), "search": searched("dc=z", 0, "(dc=z)"), "modify": modified("dc=z", "+description:d"), "add": added("cn=d,dc=z", "objectClass:person", "cn:d", "sn:n"),
		"delete": deleted("cn=b,ou=x,dc=z"), "move": moved("cn=b,ou=x,dc=z", "cn=e"), "compare": compared("dc=z", "dc", "z"), "extended": whoAmI(),
	}
	for what, m := range kinds {
		w := sample(t)
		before := entries(w.View())
		refused := what + " 12"
		w.wants(what, 0, with(m, critical("1.2")), refused)
		is(t, what+": who is bound", text(w.Who(0)), map[bool]string{true: "-", false: "cn=root"}[what == "bind"])
		w.does(0, bound("cn=root", "s"))
		w.wants(what+", behind others", 0, with(m, common("1.3"), common(page.OID), critical("")), refused)
		w.does(0, bound("cn=root", "s"))
		if what == "search" {
			w.wants("pages", 0, with(m, api.Control{OID: page.OID, Critical: true, Has: true, Value: page.Answer(1, "")}, common("1.2")), "entry DC=z [dc:z objectClass:domain]", "search 0"+done)
		} else {
			w.wants(what+", of pages", 0, with(m, critical(page.OID)), refused)
		}
		is(t, what+": nothing has changed", entries(w.View()), before)
		w.does(0, bound("cn=root", "s"))
		if what == "search" {
			continue
		}
		is(t, what+": with controls that aren't Critical", w.ask(0, with(m, common("1.2"), common(page.OID), api.Control{OID: "1.3", Has: true, Value: "v"})) == "5 "+refused, false)
	}
}

// P28.4: behind a BindReq who it comes to is bound, on that connection alone; else nobody.
func TestBind(t *testing.T) {
	w := sample(t)
	bind := func(d, password, want, who string) {
		t.Helper()
		w.wants("bind "+d, 1, bound(d, password), "bind "+want)
		is(t, "who is bound", text(w.Who(1)), who)
		is(t, "who is bound elsewhere", text(w.Who(0))+text(w.Who(2)), "cn=root-")
	}
	own := "cn=A,OU=x,dc=z"
	bind("CN=a,ou=X,DC=Z", "p", "0", own)
	bind("cn=a,ou=x,dc=z", "q", "49", "-")
	bind("cn=A,ou=x,dc=z", "p", "0", own)
	bind("", "", "0", "-")
	bind("CN=Root", "s", "0", "CN=Root")
	bind("", "s", "49", "-")
	bind("cn=root", "s", "0", "cn=root")
	bind("cn=root", "S", "49", "-")
	bind("cn=a,ou=x,dc=z", "p", "0", own)
	bind("cn=b,ou=x,dc=z", "p", "49", "-")
	bind("cn=a,ou=x,dc=z", "p", "0", own)
	bind("cn=a,", "p", "34", "-")
	bind("cn=a,ou=x,dc=z", "p", "0", own)
	w.wants("of another version", 1, api.Msg{Op: api.BindReq, Version: 2, DN: "cn=root", Text: "s"}, "bind 2")
	is(t, "nobody is bound", text(w.Who(1)), "-")
	bind("cn=a,ou=x,dc=z", "p", "0", own)
	w.wants("with what is known nowhere", 1, with(bound("cn=root", "s"), critical("1.2")), "bind 12")
	is(t, "nobody is bound", text(w.Who(1)), "-")
	bind("cn=a,ou=x,dc=z", "p", "0", own)
	w.does(0, moved("cn=a,ou=x,dc=z", "cn=e"))
	is(t, "who is bound keeps the name", text(w.Who(1)), own)
	w.wants("who am I", 1, whoAmI(), "extended 0 value (dn:cn=A,OU=x,dc=z)")
	w.wants("nobody known", 2, whoAmI(), "extended 0 value ()")
	w.wants("with a value", 1, extended(oper.WhoAmI, ""), "extended 2")
}

// P28.4, P5: a bind that failed is kept, also where that is an update; the clock is that of the server.
func TestTries(t *testing.T) {
	w := sample(t, func(c *api.Config) { c.Policy = api.Policy{Fails: 2, Window: 10, Lock: 5, Age: 20} })
	try := func(k int, password, want, kept string) {
		t.Helper()
		w.wants("try", k, bound("cn=a,ou=x,dc=z", password), "bind "+want)
		is(t, "what is kept", w.attrsOf("cn=a,ou=x,dc=z"), "changedAt:0 cn:A|other createdAt:0 objectClass:person pwdChanged:0"+kept+" sn:n userPassword:<p@0>")
	}
	w.Tick(1)
	try(1, "q", "49", " pwdFailure:1.0")
	try(2, "p", "0", "")
	try(2, "q", "49", " pwdFailure:1.0")
	w.Tick(2)
	try(1, "q", "49", " pwdLocked:3")
	try(3, "p", "49", " pwdLocked:3")
	w.Tick(4)
	try(3, "p", "49", " pwdLocked:3")
	w.Tick(1)
	try(3, "p", "0", "")
	w.Tick(12)
	try(3, "p", "49", "")
	is(t, "who is bound elsewhere stays", text(w.Who(2)), "-")
	w.does(0, modified("cn=a,ou=x,dc=z", "=userPassword:r"))
	w.wants("the new one", 3, bound("cn=a,ou=x,dc=z", "r"), "bind 0")
	again := opened(t, w.disk, config(), 20)
	is(t, "what is kept lasts", entries(again.View()), entries(w.View()))
}

// P28.4: the salt is as many more as were made, going round; what isn't done takes none.
func TestSalts(t *testing.T) {
	w := sample(t)
	is(t, "the first one", w.attrsOf("cn=a,ou=x,dc=z"), "changedAt:0 cn:A|other createdAt:0 objectClass:person pwdChanged:0 sn:n userPassword:<p@0>")
	person := func(d string, values string) api.Msg {
		return added("cn="+d+",dc=z", "objectClass:person", "cn:"+d, "sn:n", "userPassword:"+values)
	}
	salts := func(d, want string) {
		t.Helper()
		is(t, "the salts of "+d, w.attrsOf("cn="+d+",dc=z"), "changedAt:0 cn:"+d+" createdAt:0 objectClass:person pwdChanged:0 sn:n userPassword:"+want)
	}
	w.does(0, person("d", "p"))
	salts("d", "<p@1>")
	w.Salt(7)
	w.wants("what doesn't fit", 0, added("cn=e,dc=z", "cn:e", "userPassword:p|q"), "add 65")
	w.does(0, person("e", "q|p|r"))
	salts("e", "<q@7>|<p@8>|<r@9>")
	w.does(0, modified("cn=e,dc=z", "+userPassword:new"))
	salts("e", "<q@7>|<p@8>|<r@9>|<new@10>")
	w.does(0, extended(oper.Passwd, "\x30\x10\x80\x09cn=e,dc=z\x82\x03new"))
	salts("e", "<new@11>")
	w.wants("a search takes none", 0, searched("dc=z", 0, "(userPassword=p)"), "search 0")
	w.Salt(math.MaxUint64)
	w.does(0, person("f", "p|q"))
	salts("f", "<q@0>|<p@18446744073709551615>")
	w.does(0, person("g", "p"))
	salts("g", "<p@1>")
	w.disk.Limit(0)
	w.wants("what doesn't fit the disk", 0, person("h", "p|q"), "add 80")
	w.disk.Limit(2000)
	w.does(0, person("h", "p"))
	salts("h", "<p@4>")
}
