package oper_test

import (
	"fmt"
	"slices"
	"strings"
	"testing"

	"castellan/acl"
	"castellan/api"
	"castellan/check"
	"castellan/dn"
	"castellan/entry"
	"castellan/oper"
	"castellan/pass"
	"castellan/schema"
	"castellan/tree"
)

// is: a test fails, if something is another thing than was wanted.
func is[T comparable](t *testing.T, what string, got, want T) {
	t.Helper()
	if got != want {
		t.Errorf("%.3000s: %.1500s, wanted %.1500s", what, fmt.Sprint(got), fmt.Sprint(want))
	}
}

// name answers the name of a text.
func name(text string) api.DN {
	d, e := dn.Parse(text)
	if e != api.OK {
		panic(text)
	}
	return d
}

// text answers a name as a text; none as -.
func text(d api.DN) string {
	s, e := dn.Print(d)
	switch {
	case e != api.OK:
		return fmt.Sprint(e)
	case len(d) == 0:
		return "-"
	}
	return s
}

// kept answers a password as it is kept with a salt.
func kept(password string, salt uint64) string {
	s, e := pass.Make(password, salt)
	if e != api.OK {
		panic(password)
	}
	return s
}

// lines answers a list of attributes, told as lines: a name, a colon, and values with | between two. A value <p@5> is p
// as it is kept with the salt 5.
func lines(list ...string) []api.Attr {
	var out []api.Attr
	for _, line := range list {
		name, values, ok := strings.Cut(line, ":")
		a := api.Attr{Name: name}
		if ok {
			a.Values = valuesOf(values)
		}
		out = append(out, a)
	}
	return out
}

// valuesOf answers the values of a line.
func valuesOf(text string) []string {
	var out []string
	for _, v := range strings.Split(text, "|") {
		var salt uint64
		if p, digits, ok := strings.Cut(strings.TrimPrefix(v, "<"), "@"); ok && strings.HasPrefix(v, "<") {
			fmt.Sscan(strings.TrimSuffix(digits, ">"), &salt)
			v = kept(p, salt)
		}
		out = append(out, v)
	}
	return out
}

// mods answers modifications, told as lines behind a + (add), a - (delete), a = (replace) or a ? (none of these).
func mods(list ...string) []api.Mod {
	var out []api.Mod
	for _, line := range list {
		a := lines(line[1:])[0]
		out = append(out, api.Mod{Op: strings.Index("+-=?", line[:1]), Name: a.Name, Values: a.Values})
	}
	return out
}

// passwords are those that tests use.
var passwords = []string{"p", "q", "r", "new", "old", "s", "secret"}

// value answers a value as a text: of a password that is kept which one it is, and with what salt.
func value(v string) string {
	salt, ok := pass.Salt(v)
	if !ok {
		return v
	}
	for _, p := range passwords {
		if pass.Check(v, p) {
			return fmt.Sprintf("<%s@%d>", p, salt)
		}
	}
	return v
}

// attributes answers attributes as a text.
func attributes(list []api.Attr) string {
	var out []string
	for _, a := range list {
		var values []string
		for _, v := range a.Values {
			values = append(values, value(v))
		}
		out = append(out, a.Name+":"+strings.Join(values, "|"))
	}
	return strings.Join(out, " ")
}

// update answers an update as a text.
func update(u api.Update) string {
	words := []string{"0", "added", "deleted", "changed", "moved"}
	out := fmt.Sprint("kind ", u.Kind)
	if 0 <= u.Kind && u.Kind < len(words) {
		out = words[u.Kind]
	}
	if len(u.DN) > 0 {
		out += " " + text(u.DN)
	}
	if len(u.To) > 0 {
		out += " to " + text(u.To)
	}
	if len(u.Attrs) > 0 {
		out += " [" + attributes(u.Attrs) + "]"
	}
	return out
}

// told answers an answer as a text: its code, and each field that isn't zero.
func told(a oper.Answer) string {
	out := []string{fmt.Sprint(a.Code)}
	if len(a.Matched) > 0 {
		out = append(out, "near "+text(a.Matched))
	}
	if a.Do {
		out = append(out, "do")
	}
	if s := update(a.U); s != "0" {
		out = append(out, s)
	}
	if len(a.Who) > 0 {
		out = append(out, "who "+text(a.Who))
	}
	if a.Value != "" {
		out = append(out, "value "+a.Value)
	}
	if a.Salts != 0 {
		out = append(out, fmt.Sprint("salts ", a.Salts))
	}
	return strings.Join(out, ", ")
}

// root is the name of the one who may all.
const root = "cn=root"

// changes answers the schema Core behind what some changes make of it.
func changes(change ...func(*api.Schema)) api.Schema {
	s := schema.Core()
	for _, f := range change {
		f(&s)
	}
	if e := schema.Check(s); e != api.OK {
		panic(e)
	}
	return s
}

// typed lets a type be another one.
func typed(name string, change func(*api.Type)) func(*api.Schema) {
	return func(s *api.Schema) {
		at := slices.IndexFunc(s.Types, func(x api.Type) bool { return x.Name == name })
		change(&s.Types[at])
	}
}

// without takes types, and what classes say of them, out of a schema.
func without(names ...string) func(*api.Schema) {
	return func(s *api.Schema) {
		gone := func(name string) bool { return slices.Contains(names, name) }
		s.Types = slices.DeleteFunc(s.Types, func(x api.Type) bool { return gone(x.Name) })
		for i := range s.Classes {
			c := &s.Classes[i]
			c.Must, c.May = slices.DeleteFunc(c.Must, gone), slices.DeleteFunc(c.May, gone)
		}
	}
}

// all is the rule by which all may all.
func all() api.Rule { return api.Rule{Rights: 15, Allow: true} }

// world is a tree, and what requests are done in.
type world struct {
	*testing.T
	oper.Env
	tree *tree.Tree
	now  int64
	salt uint64
}

// empty answers a world of the suffix dc=z without entries, by these rules.
func empty(t *testing.T, s api.Schema, rules ...api.Rule) *world {
	t.Helper()
	x, e := tree.New(name("dc=z"))
	if e != api.OK {
		t.Fatal(e)
	}
	b, e := acl.New(s, name(root), rules...)
	if e != api.OK {
		t.Fatal(e)
	}
	env := oper.Env{View: x.View, Schema: s, Book: b, Policy: api.Policy{Fails: 2, Window: 10, Lock: 5}, Admin: name(root), Secret: "s"}
	return &world{T: t, Env: env, tree: x, now: 7, salt: 5}
}

// put lets there be an entry, told as its name and attributes, with a ; and a blank between two.
func (w *world) put(entries ...string) *world {
	w.Helper()
	for _, line := range entries {
		words := strings.Split(line, "; ")
		attrs, code := entry.Make(w.Schema, lines(words[1:]...)...)
		if code != api.Success {
			w.Fatalf("%s: %d", line, code)
		}
		if code := w.tree.Do(api.Update{Kind: api.Added, DN: name(words[0]), Attrs: attrs}); code != api.Success {
			w.Fatalf("%s: %d", line, code)
		}
	}
	return w
}

// sample answers a world of some entries, whose names are spelt in several ways, by these rules; without any all may all.
func sample(t *testing.T, rules ...api.Rule) *world {
	t.Helper()
	if len(rules) == 0 {
		rules = []api.Rule{all()}
	}
	return empty(t, schema.Core(), rules...).put(
		"DC=z; objectClass:domain; dc:z; createdAt:1; changedAt:1",
		"ou=X,dc=Z; objectClass:organizationalUnit; ou:X; createdAt:1; changedAt:1",
		"cn=A,OU=x,dc=z; objectClass:person; cn:A|other; sn:n; userPassword:<p@9>; createdAt:1; pwdChanged:2",
		"cn=b,ou=x,dc=z; objectClass:person; cn:b; sn:n; createdAt:1; changedAt:1",
		"ou=y,dc=z; objectClass:organizationalUnit; ou:y; createdAt:1; changedAt:1",
	)
}

// somebody answers the name of a text, in which - is nobody known.
func somebody(who string) api.DN {
	if who == "-" {
		return nil
	}
	return name(who)
}

// ask answers what a request comes to.
func (w *world) ask(who string, m api.Msg) oper.Answer {
	return oper.Do(w.Env, somebody(who), m, w.now, w.salt)
}

// wants: a request comes to that.
func (w *world) wants(what, who string, m api.Msg, want string) {
	w.Helper()
	is(w.T, what, told(w.ask(who, m)), want)
}

// does: a request comes to that, and its update is done.
func (w *world) does(what, who string, m api.Msg, want string) {
	w.Helper()
	a := w.ask(who, m)
	is(w.T, what, told(a), want)
	if a.Do {
		w.right(what, a)
		is(w.T, what+": done", w.tree.Do(a.U), api.Success)
	}
}

// right: what is to be done can be, and leaves an entry that is in form and fits (P25.8).
func (w *world) right(what string, a oper.Answer) {
	w.Helper()
	is(w.T, what+": Able", w.View.Able(a.U), api.Success)
	if a.U.Kind == api.Deleted {
		return
	}
	formed, code := entry.Make(w.Schema, a.U.Attrs...)
	is(w.T, what+": Make", code, api.Success)
	is(w.T, what+": in form", attributes(formed), attributes(a.U.Attrs))
	d := a.U.DN
	if a.U.Kind == api.Moved {
		d = a.U.To
	}
	is(w.T, what+": Fits", check.Fits(w.Schema, d[0], a.U.Attrs), api.Success)
}

// added answers an AddReq.
func added(d string, list ...string) api.Msg {
	return api.Msg{Op: api.AddReq, DN: d, Attrs: lines(list...)}
}

// modified answers a ModifyReq.
func modified(d string, list ...string) api.Msg {
	return api.Msg{Op: api.ModifyReq, DN: d, Mods: mods(list...)}
}

// deleted answers a DeleteReq.
func deleted(d string) api.Msg { return api.Msg{Op: api.DeleteReq, DN: d} }

// moved answers a MoveReq, perhaps beneath another parent.
func moved(d, rdn string, drop bool, sup ...string) api.Msg {
	m := api.Msg{Op: api.MoveReq, DN: d, Rdn: rdn, DeleteOld: drop, HasSup: len(sup) > 0}
	if m.HasSup {
		m.Sup = sup[0]
	}
	return m
}

// compared answers a CompareReq.
func compared(d, attr, value string) api.Msg {
	return api.Msg{Op: api.CompareReq, DN: d, Attr: attr, Text: value}
}

// bound answers a BindReq.
func bound(d, password string) api.Msg {
	return api.Msg{Op: api.BindReq, Version: 3, DN: d, Text: password}
}

// extended answers an ExtendedReq, perhaps with a value.
func extended(oid string, value ...string) api.Msg {
	m := api.Msg{Op: api.ExtendedReq, OID: oid, Has: len(value) > 0}
	if m.Has {
		m.Value = value[0]
	}
	return m
}

// said answers the value of a Passwd with these parts, each a digit (0 whose, 1 old, 2 new) and what it says.
func said(parts ...string) string {
	inside := ""
	for _, p := range parts {
		inside += element(0x80+p[0]-'0', p[1:])
	}
	return element(0x30, inside)
}

// element answers an element of BER.
func element(tag byte, data string) string {
	length := []byte{byte(len(data))}
	if len(data) > 127 {
		length = []byte{0x82, byte(len(data) >> 8), byte(len(data))}
	}
	return string([]byte{tag}) + string(length) + data
}

// passwd answers a Passwd with these parts.
func passwd(parts ...string) api.Msg { return extended(oper.Passwd, said(parts...)) }
