package server_test

import (
	"fmt"
	"strings"
	"testing"

	"castellan/api"
	"castellan/disk"
	"castellan/dn"
	"castellan/feed"
	"castellan/filt"
	"castellan/oper"
	"castellan/page"
	"castellan/pass"
	"castellan/schema"
	"castellan/server"
	"castellan/tree"
	"castellan/wire"
)

// is: a test fails, if something is another thing than was wanted.
func is[T comparable](t *testing.T, what string, got, want T) {
	t.Helper()
	if got != want {
		t.Errorf("%.2000s: %.2000s, wanted %.2000s", what, fmt.Sprint(got), fmt.Sprint(want))
	}
}

// name answers the name of a text.
func name(text string) api.DN {
	d, e := dn.Parse(text)
	if e != api.OK {
		panic(text)
	}
	return d
}

// text answers a name as a text; the name without RDNs as -.
func text(d api.DN) string {
	if len(d) == 0 {
		return "-"
	}
	s, e := dn.Print(d)
	if e != api.OK {
		panic(fmt.Sprintf("%v %q", e, d))
	}
	return s
}

// lines answers a list of attributes, told as lines: a name, a colon, and values with | between two.
func lines(list ...string) []api.Attr {
	var out []api.Attr
	for _, line := range list {
		name, values, ok := strings.Cut(line, ":")
		a := api.Attr{Name: name}
		if ok {
			a.Values = strings.Split(values, "|")
		}
		out = append(out, a)
	}
	return out
}

// value answers a value as a text: of a password that is kept which one it is, and with what salt.
func value(v string) string {
	salt, ok := pass.Salt(v)
	if !ok {
		return v
	}
	for _, p := range []string{"p", "q", "r", "new"} {
		if pass.Check(v, p) {
			return fmt.Sprintf("<%s@%d>", p, salt)
		}
	}
	return v
}

// attributes answers attributes as a text.
func attributes(list []api.Attr) string {
	var out []string
	for _, a := range list {
		var values []string
		for _, v := range a.Values {
			values = append(values, value(v))
		}
		out = append(out, a.Name+":"+strings.Join(values, "|"))
	}
	return strings.Join(out, " ")
}

// told answers a response as a text.
func told(m api.Msg) string {
	words := map[int]string{1: "bind", 4: "entry", 5: "search", 7: "modify", 9: "add", 11: "delete", 13: "move", 15: "compare", 24: "extended"}
	out := fmt.Sprint(m.ID, " ", words[m.Op])
	if m.Op == api.SearchEntry {
		out += " " + m.DN + " [" + attributes(m.Attrs) + "]"
	} else {
		out += fmt.Sprint(" ", m.Code)
	}
	for _, part := range []struct{ what, text string }{{"near", m.Matched}, {"text", m.Text}, {"oid", m.OID}} {
		if part.text != "" {
			out += " " + part.what + " " + part.text
		}
	}
	if m.Has {
		out += " value (" + m.Value + ")"
	}
	for _, c := range m.Controls {
		size, cookie, ok := page.Ask(c.Value)
		if c.OID == page.OID && !c.Critical && c.Has && ok && size == 0 {
			out += fmt.Sprintf(" next (%x)", cookie)
		} else {
			out += fmt.Sprintf(" control %+v", c)
		}
	}
	return out
}

// read answers the messages that bytes are.
func read(t *testing.T, s string) []api.Msg {
	t.Helper()
	b := feed.New()
	b.Add(s)
	var out []api.Msg
	for {
		one, ok, e := b.Next()
		if e != api.OK || !ok && b.Len() > 0 {
			t.Fatalf("no messages: %x", s)
		}
		if !ok {
			return out
		}
		m, e := wire.Read(one)
		if e != api.OK {
			t.Fatalf("no message: %x", one)
		}
		out = append(out, m)
	}
}

// saying answers the bytes of responses as a text, with ; and a blank between two.
func saying(t *testing.T, s string) string {
	t.Helper()
	var out []string
	for _, m := range read(t, s) {
		out = append(out, told(m))
	}
	return strings.Join(out, "; ")
}

// bytesOf answers the bytes of messages.
func bytesOf(msgs ...api.Msg) string {
	var out strings.Builder
	for _, m := range msgs {
		s, e := wire.Write(m)
		if e != api.OK {
			panic(fmt.Sprintf("%v: %+v", e, m))
		}
		out.WriteString(s)
	}
	return out.String()
}

// config answers the configuration of the document's examples, behind what some changes make of it.
func config(changes ...func(*api.Config)) api.Config {
	c := api.Config{Suffix: "dc=z", Admin: "cn=root", Password: "s", Schema: schema.Core(), Rules: []api.Rule{{Rights: 7, Allow: true}}, Policy: api.Policy{Fails: 2, Lock: 10}, Indexed: []string{"cn"}, Wide: 10}
	for _, change := range changes {
		change(&c)
	}
	return c
}

// ruled lets a configuration have these rules.
func ruled(rules ...api.Rule) func(*api.Config) {
	return func(c *api.Config) { c.Rules = rules }
}

// all is the rule by which all may all.
func all() api.Rule { return api.Rule{Rights: 15, Allow: true} }

// world is a server, and its disk.
type world struct {
	*testing.T
	*server.Server
	disk *disk.Disk
}

// opened answers a server on a disk.
func opened(t *testing.T, d *disk.Disk, c api.Config, now int64) *world {
	t.Helper()
	s, e := server.Open(d, c, now)
	if e != api.OK || s == nil {
		t.Fatalf("Open: %v", e)
	}
	return &world{t, s, d}
}

// empty answers a server without entries, on whose connection 0 the one who may all is bound.
func empty(t *testing.T, changes ...func(*api.Config)) *world {
	t.Helper()
	w := opened(t, disk.New(2000), config(changes...), 0)
	w.wants("the bind", 0, bound("cn=root", "s"), "bind 0")
	return w
}

// sample answers a server of some entries, whose names are spelt in several ways; cn=A has the password p.
func sample(t *testing.T, changes ...func(*api.Config)) *world {
	t.Helper()
	w := empty(t, changes...)
	w.does(0, added("DC=z", "objectClass:domain", "dc:z"))
	w.does(0, added("ou=X,dc=Z", "objectClass:organizationalUnit", "ou:X"))
	w.does(0, added("cn=A,OU=x,dc=z", "objectClass:person", "cn:A|other", "sn:n", "userPassword:p"))
	w.does(0, added("cn=b,ou=x,dc=z", "objectClass:person", "cn:b", "sn:m"))
	w.does(0, added("cn=c,ou=x,dc=z", "objectClass:person", "cn:c", "sn:n"))
	return w
}

// ask answers what a request on a connection is answered, as a text. An ID of 0 is made 5.
func (w *world) ask(k int, m api.Msg) string {
	w.Helper()
	if m.ID == 0 {
		m.ID = 5
	}
	out, e := w.Feed(k, bytesOf(m))
	if e != api.OK {
		return fmt.Sprint(e, " ", saying(w.T, out))
	}
	return saying(w.T, out)
}

// wants: a request on a connection is answered so; behind the ID, which is 5, of each.
func (w *world) wants(what string, k int, m api.Msg, want ...string) {
	w.Helper()
	for i := range want {
		want[i] = "5 " + want[i]
	}
	is(w.T, what, w.ask(k, m), strings.Join(want, "; "))
}

// does: a request on a connection has one result, Success.
func (w *world) does(k int, m api.Msg) {
	w.Helper()
	out := w.ask(k, m)
	if !strings.HasSuffix(out, " 0") || strings.Contains(out, ";") {
		w.Errorf("%+v: %s", m, out)
	}
}

// entries answers the entries of a view as a text, in order.
func entries(v *tree.View) string {
	var out []string
	for _, id := range v.Scope(v.Find(v.Suffix()), 2) {
		d, list := v.Entry(id)
		out = append(out, text(d)+" ["+attributes(list)+"]")
	}
	return strings.Join(out, " / ")
}

// attrsOf answers the attributes of an entry as a text.
func (w *world) attrsOf(d string) string {
	_, list := w.View().Entry(w.View().Find(name(d)))
	return attributes(list)
}

// bound answers a BindReq.
func bound(d, password string) api.Msg {
	return api.Msg{Op: api.BindReq, Version: 3, DN: d, Text: password}
}

// added answers an AddReq.
func added(d string, list ...string) api.Msg {
	return api.Msg{Op: api.AddReq, DN: d, Attrs: lines(list...)}
}

// modified answers a ModifyReq of lines behind a + (add), a - (delete) or a = (replace).
func modified(d string, list ...string) api.Msg {
	m := api.Msg{Op: api.ModifyReq, DN: d}
	for _, line := range list {
		a := lines(line[1:])[0]
		m.Mods = append(m.Mods, api.Mod{Op: strings.Index("+-=", line[:1]), Name: a.Name, Values: a.Values})
	}
	return m
}

// deleted answers a DeleteReq.
func deleted(d string) api.Msg { return api.Msg{Op: api.DeleteReq, DN: d} }

// moved answers a MoveReq that deletes the old value, perhaps beneath another parent.
func moved(d, rdn string, sup ...string) api.Msg {
	m := api.Msg{Op: api.MoveReq, DN: d, Rdn: rdn, DeleteOld: true, HasSup: len(sup) > 0}
	if m.HasSup {
		m.Sup = sup[0]
	}
	return m
}

// compared answers a CompareReq.
func compared(d, attr, value string) api.Msg {
	return api.Msg{Op: api.CompareReq, DN: d, Attr: attr, Text: value}
}

// extended answers an ExtendedReq, perhaps with a value.
func extended(oid string, value ...string) api.Msg {
	m := api.Msg{Op: api.ExtendedReq, OID: oid, Has: len(value) > 0}
	if m.Has {
		m.Value = value[0]
	}
	return m
}

// whoAmI answers the request for who is bound.
func whoAmI() api.Msg { return extended(oper.WhoAmI) }

// searched answers a SearchReq beneath a name for a filter's text, of some attributes.
func searched(d string, scope int, filter string, names ...string) api.Msg {
	return api.Msg{Op: api.SearchReq, DN: d, Scope: scope, Filter: filterOf(filter), Names: names}
}

// with answers a message with more controls.
func with(m api.Msg, controls ...api.Control) api.Msg {
	m.Controls = append(m.Controls[:len(m.Controls):len(m.Controls)], controls...)
	return m
}

// critical and common answer controls of a number.
func critical(oid string) api.Control { return api.Control{OID: oid, Critical: true} }

func common(oid string) api.Control { return api.Control{OID: oid} }

// paged answers a search of which a page is asked for.
func paged(m api.Msg, size int, cookie string) api.Msg {
	return with(m, api.Control{OID: page.OID, Has: true, Value: page.Answer(size, cookie)})
}

// numbered answers the cookie of the place of a number.
func numbered(n int) string {
	return "\x00\x00\x00\x00\x00\x00" + string([]byte{byte(n >> 8), byte(n)})
}

// next answers how the cookie of the place of a number is told.
func next(n int) string { return fmt.Sprintf(" next (%016x)", n) }

// done answers how it is told that there is no page more.
const done = " next ()"

// filterOf answers the filter of a text.
func filterOf(text string) api.Filter {
	f, e := filt.Parse(text)
	if e != api.OK {
		panic(text)
	}
	return f
}
