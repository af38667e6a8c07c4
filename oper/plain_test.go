package oper_test

import (
	"fmt"
	"slices"
	"strings"

	"castellan/api"
	"castellan/check"
	"castellan/dn"
	"castellan/entry"
	"castellan/oper"
	"castellan/pass"
	"castellan/policy"
	"castellan/syntax"
	"castellan/tree"
)

// row is an entry of a list.
type row struct {
	id    int
	name  api.DN
	attrs []api.Attr
}

// rows answers the entries of a view as a list, in order.
func rows(v *tree.View) []row {
	var out []row
	for _, id := range v.Scope(v.Find(v.Suffix()), 2) {
		d, list := v.Entry(id)
		out = append(out, row{id, d, list})
	}
	return out
}

// same tells whether two names are the same: each lies under the other.
func same(a, b api.DN) bool { return dn.Under(a, b) && dn.Under(b, a) }

// plain is Do in another way: step by step, each of which may end it all.
type plain struct {
	oper.Env
	rows []row
	who  api.DN
	m    api.Msg
	now  int64
	salt uint64
	used int
}

// end is what ends it.
type end struct{ oper.Answer }

// plainDo is Do.
func plainDo(env oper.Env, who api.DN, m api.Msg, now int64, salt uint64) (a oper.Answer) {
	defer func() {
		x := recover()
		if e, ok := x.(end); ok {
			a = e.Answer
		} else if x != nil {
			panic(x)
		}
	}()
	p := &plain{Env: env, rows: rows(env.View), who: who, m: m, now: now, salt: salt}
	steps := map[int]func() oper.Answer{0: p.bind, 6: p.modify, 8: p.add, 10: p.remove, 12: p.move, 14: p.compare, 23: p.extended}
	p.must(api.ProtocolErr, steps[m.Op] != nil && now >= 0 && now <= 9007199254740991)
	a = steps[m.Op]()
	if a.Do {
		a.Salts = p.used
	}
	return a
}

// must ends it with a code, unless something is so.
func (p *plain) must(code int, so bool) {
	if !so {
		panic(end{oper.Answer{Code: code}})
	}
}

// good ends it with a code that isn't Success.
func (p *plain) good(code int) { p.must(code, code == 0) }

// named is the name of a text.
func (p *plain) named(text string) api.DN {
	d, e := dn.Parse(text)
	p.must(api.InvalidDN, e == 0)
	return d
}

// entry is the entry of a name.
func (p *plain) entry(d api.DN) row {
	var best row
	for _, r := range p.rows {
		if dn.Under(d, r.name) && p.Book.May(p.who, r.name, "", 1) && len(r.name) > len(best.name) {
			best = r
		}
	}
	if best.id == 0 || !same(best.name, d) {
		panic(end{oper.Answer{Code: api.NoSuchObject, Matched: best.name}})
	}
	return best
}

// may ends it, unless somebody may write.
func (p *plain) may(d api.DN, attr string) {
	p.must(api.Insufficient, p.Book.May(p.who, d, attr, 8))
}

// typ finds a type.
func (p *plain) typ(name string) (api.Type, bool) {
	for _, x := range p.Schema.Types {
		if strings.EqualFold(x.Name, name) {
			return x, true
		}
	}
	return api.Type{}, false
}

// users ends it, where a type is an operational one.
func (p *plain) users(name string) {
	x, _ := p.typ(name)
	p.must(api.Constraint, !x.Oper)
}

// secret tells whether a name is that of passwords.
func secret(name string) bool { return strings.EqualFold(name, "userPassword") }

// keep is Salted.
func (p *plain) keep(values []string) []string {
	var out []string
	for _, v := range values {
		if !pass.Stored(v) {
			p.must(api.Constraint, len(v) > 0 && len(v) < 257)
			v = kept(v, p.salt+uint64(p.used))
			p.used++
		}
		out = append(out, v)
	}
	return out
}

// stamp is Stamped, of the attributes that are to be changed: an attribute, a blank and its value, or nothing.
func (p *plain) stamp(attrs []api.Attr, stamps ...string) []api.Attr {
	for _, s := range stamps {
		name, v, _ := strings.Cut(s, " ")
		if _, ok := p.typ(name); !ok {
			continue
		}
		m := api.Mod{Op: 2, Name: name}
		if v != "" {
			m.Values = strings.Split(v, "|")
		}
		out, code := entry.Apply(p.Schema, attrs, m)
		p.good(code)
		attrs = out
	}
	return attrs
}

// at tells the time of a change.
func (p *plain) at(name string) string { return fmt.Sprint(name, " ", p.now) }

// renewed is Renewed.
func (p *plain) renewed() []string {
	return []string{p.at("pwdChanged"), "pwdFailure", "pwdLocked"}
}

// done is the answer of an update that can be done.
func (p *plain) done(u api.Update) oper.Answer {
	p.good(p.View.Able(u))
	return oper.Answer{Do: true, U: u}
}

func (p *plain) add() oper.Answer {
	d := p.named(p.m.DN)
	own := same(d, p.View.Suffix())
	if !own {
		p.must(api.NoSuchObject, len(d) > 0)
		p.may(p.entry(d[1:]).name, "")
	}
	p.may(d, "")
	var list []api.Attr
	for _, a := range p.m.Attrs {
		p.may(d, a.Name)
	}
	for _, a := range p.m.Attrs {
		p.users(a.Name)
	}
	stamps := []string{p.at("createdAt"), p.at("changedAt")}
	for _, a := range p.m.Attrs {
		if secret(a.Name) {
			a.Values = p.keep(a.Values)
			stamps = append(stamps, p.renewed()...)
		}
		list = append(list, a)
	}
	attrs, code := entry.Make(p.Schema, list...)
	p.good(code)
	attrs = p.stamp(attrs, stamps...)
	p.good(check.Fits(p.Schema, d[0], attrs))
	return p.done(api.Update{Kind: 1, DN: d, Attrs: attrs})
}

func (p *plain) modify() oper.Answer {
	r := p.entry(p.named(p.m.DN))
	p.may(r.name, "")
	for _, m := range p.m.Mods {
		p.may(r.name, m.Name)
	}
	for _, m := range p.m.Mods {
		p.users(m.Name)
	}
	var list []api.Mod
	for _, m := range p.m.Mods {
		if secret(m.Name) && m.Op != 1 {
			m.Values = p.keep(m.Values)
		}
		list = append(list, m)
	}
	return p.change(r, list)
}

func (p *plain) change(r row, list []api.Mod) oper.Answer {
	attrs, stamps := r.attrs, []string{p.at("changedAt")}
	for _, m := range list {
		out, code := entry.Apply(p.Schema, attrs, m)
		p.good(code)
		attrs = out
		if secret(m.Name) {
			stamps = append(stamps, p.renewed()...)
		}
	}
	attrs = p.stamp(attrs, stamps...)
	p.good(check.Changes(p.Schema, r.attrs, attrs))
	code := check.Fits(p.Schema, r.name[0], attrs)
	p.must(api.NotOnRDN, code != api.Naming)
	p.good(code)
	return p.done(api.Update{Kind: 3, DN: r.name, Attrs: attrs})
}

func (p *plain) remove() oper.Answer {
	r := p.entry(p.named(p.m.DN))
	p.may(r.name, "")
	return p.done(api.Update{Kind: 2, DN: r.name})
}

func (p *plain) move() oper.Answer {
	r := p.entry(p.named(p.m.DN))
	rdn := p.named(p.m.Rdn)
	p.must(api.InvalidDN, len(rdn) == 1)
	above := r.name[1:]
	if p.m.HasSup {
		above = p.named(p.m.Sup)
	}
	p.must(api.Unwilling, len(r.name) > len(p.View.Suffix()))
	to := p.entry(above)
	p.may(r.name, "")
	p.may(to.name, "")
	for _, a := range rdn[0] {
		p.users(a.Type)
	}
	attrs, code := check.Renamed(p.Schema, r.attrs, r.name[0], rdn[0], p.m.DeleteOld)
	p.good(code)
	attrs = p.stamp(attrs, p.at("changedAt"))
	p.good(check.Fits(p.Schema, rdn[0], attrs))
	return p.done(api.Update{Kind: 4, DN: r.name, To: append(rdn, to.name...), Attrs: attrs})
}

func (p *plain) compare() oper.Answer {
	r := p.entry(p.named(p.m.DN))
	x, ok := p.typ(p.m.Attr)
	p.must(api.UndefinedType, ok)
	p.must(api.Insufficient, p.Book.May(p.who, r.name, p.m.Attr, 4))
	values := entry.Get(r.attrs, p.m.Attr)
	p.must(api.NoSuchAttr, len(values) > 0)
	want, ok := syntax.Norm(x.Syntax, p.m.Text)
	p.must(api.InvalidSyntax, ok || secret(p.m.Attr))
	for _, v := range values {
		norm, _ := syntax.Norm(x.Syntax, v)
		p.must(api.CompareTrue, secret(p.m.Attr) || norm != want)
		p.must(api.CompareTrue, !secret(p.m.Attr) || !pass.Check(v, p.m.Text))
	}
	return oper.Answer{Code: api.CompareFalse}
}

func (p *plain) bind() oper.Answer {
	p.must(api.ProtocolErr, p.m.Version == 3)
	p.must(api.AuthMethod, !p.m.Sasl)
	d := p.named(p.m.DN)
	if len(d) == 0 {
		p.must(api.InvalidCreds, p.m.Text == "")
		return oper.Answer{}
	}
	p.must(api.Unwilling, p.m.Text != "")
	if same(d, p.Admin) {
		p.must(api.InvalidCreds, p.m.Text == p.Secret)
		return oper.Answer{Who: d}
	}
	at := slices.IndexFunc(p.rows, func(r row) bool { return same(r.name, d) })
	p.must(api.InvalidCreds, at >= 0)
	r := p.rows[at]
	values := entry.Get(r.attrs, "userPassword")
	p.must(api.InvalidCreds, len(values) > 0)
	right := false
	for _, v := range values {
		right = right || pass.Check(v, p.m.Text)
	}
	was := policy.Read(r.attrs)
	now, v := policy.Try(p.Policy, was, p.now, right)
	out := oper.Answer{Code: api.InvalidCreds}
	if v == policy.Good {
		out = oper.Answer{Who: r.name}
	}
	if fmt.Sprint(policy.Mods(was)) == fmt.Sprint(policy.Mods(now)) {
		return out
	}
	defer func() {
		// Where it can't be stamped there is no update, and else the same.
		if x := recover(); x != nil {
			panic(end{out})
		}
	}()
	var stamps []string
	for _, m := range policy.Mods(now) {
		stamps = append(stamps, m.Name+" "+strings.Join(m.Values, "|"))
	}
	attrs := p.stamp(r.attrs, stamps...)
	both := out
	both.Do, both.U = true, api.Update{Kind: 3, DN: r.name, Attrs: attrs}
	return both
}

func (p *plain) extended() oper.Answer {
	if p.m.OID == "1.3.6.1.4.1.4203.1.11.3" {
		p.must(api.ProtocolErr, !p.m.Has)
		who, _ := dn.Print(p.who)
		if who != "" {
			who = "dn:" + who
		}
		return oper.Answer{Value: who}
	}
	p.must(api.ProtocolErr, p.m.OID == "1.3.6.1.4.1.4203.1.11.1")
	parts := map[byte]string{}
	if p.m.Has {
		s := p.m.Value
		p.must(api.ProtocolErr, len(s) > 1 && s[0] == 0x30 && int(s[1]) == len(s)-2)
		last := byte(0x7f)
		for s = s[2:]; s != ""; {
			p.must(api.ProtocolErr, len(s) > 1 && s[0] > last && s[0] < 0x83 && int(s[1]) <= len(s)-2)
			last = s[0]
			parts[last] = s[2 : 2+int(s[1])]
			s = s[2+int(s[1]):]
		}
	}
	d := p.who
	if whose, ok := parts[0x80]; ok {
		d = p.named(whose)
	}
	p.must(api.Unwilling, len(d) > 0)
	r := p.entry(d)
	p.may(r.name, "userPassword")
	if old, ok := parts[0x81]; ok {
		right := func(v string) bool { return pass.Check(v, old) }
		p.must(api.InvalidCreds, slices.ContainsFunc(entry.Get(r.attrs, "userPassword"), right))
	}
	fresh, ok := parts[0x82]
	p.must(api.Unwilling, ok)
	return p.change(r, []api.Mod{{Op: 2, Name: "userPassword", Values: p.keep([]string{fresh})}})
}
