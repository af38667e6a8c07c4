package oper_test

import (
	"fmt"
	"slices"
	"testing"

	"castellan/api"
	"castellan/oper"
)

// places puts the memory of a list, spare room included, to what was found so far, and tells whether some was there.
func places[T any](found map[any]bool, list []T) bool {
	twice := false
	list = list[:cap(list)]
	for i := range list {
		twice = twice || found[&list[i]]
		found[&list[i]] = true
	}
	return twice
}

// ofName is places of a name and of its RDNs.
func ofName(found map[any]bool, d api.DN) bool {
	twice := places(found, d)
	for _, rdn := range d {
		twice = places(found, rdn) || twice
	}
	return twice
}

// ofAnswer is places of all that an answer has.
func ofAnswer(found map[any]bool, a oper.Answer) bool {
	twice := false
	for _, d := range []api.DN{a.Matched, a.U.DN, a.U.To, a.Who} {
		twice = ofName(found, d) || twice
	}
	twice = places(found, a.U.Attrs) || twice
	for _, x := range a.U.Attrs {
		twice = places(found, x.Values) || twice
	}
	return twice
}

// ofArguments is places of all that is handed in.
func ofArguments(found map[any]bool, env oper.Env, who api.DN, m api.Msg) {
	ofName(found, env.Admin)
	ofName(found, who)
	places(found, m.Attrs)
	for _, x := range m.Attrs {
		places(found, x.Values)
	}
	places(found, m.Mods)
	for _, x := range m.Mods {
		places(found, x.Values)
	}
}

// spoil turns all that an answer has, spare room included.
func spoil(a oper.Answer) {
	for _, d := range []api.DN{a.Matched, a.U.DN, a.U.To, a.Who} {
		for _, rdn := range d {
			clear(rdn[:cap(rdn)])
		}
		clear(d[:cap(d)])
	}
	for _, x := range a.U.Attrs {
		clear(x.Values[:cap(x.Values)])
	}
	clear(a.U.Attrs[:cap(a.U.Attrs)])
}

// roomy answers a list with spare room, in which something stands.
func roomy[T any](list []T, spare T) []T {
	return append(slices.Clone(list), spare, spare)[:len(list)]
}

// Memory: what is handed in stays, spare room included; answers share nothing with that, with each other, with the
// entries, or within themselves.
func TestMemory(t *testing.T) {
	full := func() *world {
		return sample(t).put("cn=c,dc=z; objectClass:person; cn:c; sn:n; userPassword:<p@9>|<q@10>; pwdChanged:2; pwdFailure:1.0|1.1")
	}
	for what, c := range map[string]struct {
		who string
		m   api.Msg
	}{
		"add":           {root, added("cn=n+sn=m,OU=y,dc=z", "objectClass:person", "cn:n", "sn:m|n", "userPassword:p|q|<r@3>", "userPassword:r")},
		"add, no entry": {root, added("cn=n,cn=none,ou=x,dc=z")},
		"modify":        {root, modified("cn=c,dc=z", "+description:d", "+userPassword:r|new|<s@4>", "-sn:n", "+sn:m")},
		"delete":        {root, deleted("cn=c,dc=z")},
		"move":          {root, moved("cn=c,dc=z", "cn=d+sn=n", true, "OU=X,dc=z")},
		"move, stays":   {root, moved("cn=c,dc=z", "cn=d", false)},
		"compare":       {root, compared("cn=c,dc=z", "cn", "c")},
		"bind, failed":  {root, bound("cn=c,dc=z", "r")},
		"bind, right":   {root, bound("cn=c,dc=z", "p")},
		"bind, root":    {"cn=c,dc=z", bound(root, "s")},
		"bind, no one":  {root, bound("", "")},
		"who":           {"cn=c,dc=z", extended(oper.WhoAmI)},
		"passwd":        {"cn=c,dc=z", passwd("1p", "2new")},
		"no entry":      {root, passwd("0cn=none,cn=c,dc=z", "2new")},
	} {
		w := full()
		who, m := somebody(c.who), c.m
		w.Admin = roomy(w.Admin, api.RDN{{Type: "spare"}})
		who = roomy(who, api.RDN{{Type: "spare"}})
		m.Attrs = roomy(m.Attrs, api.Attr{Name: "spare"})
		for i := range m.Attrs {
			m.Attrs[i].Values = roomy(m.Attrs[i].Values, "spare")
		}
		m.Mods = roomy(m.Mods, api.Mod{Name: "spare"})
		for i := range m.Mods {
			m.Mods[i].Values = roomy(m.Mods[i].Values, "spare")
		}
		before := func() string {
			text := fmt.Sprint(w.Env.Schema, w.Admin[:cap(w.Admin)], who[:cap(who)], m, m.Attrs[:cap(m.Attrs)], m.Mods[:cap(m.Mods)], rows(w.View))
			for _, x := range m.Attrs {
				text += fmt.Sprint(x.Values[:cap(x.Values)])
			}
			for _, x := range m.Mods {
				text += fmt.Sprint(x.Values[:cap(x.Values)])
			}
			return text
		}
		was, found := before(), map[any]bool{}
		ofArguments(found, w.Env, who, m)
		want := ""
		for i := range 3 {
			a := oper.Do(w.Env, who, m, 7, 5)
			is(t, what+": what is handed in", before(), was)
			if i == 0 {
				want = told(a)
			}
			is(t, what+": the answer", told(a), want)
			is(t, what+": is memory shared", ofAnswer(found, a), false)
			spoil(a)
			is(t, what+": what is handed in, behind that", before(), was)
		}
		// Of an update nothing but what was told hangs on the answer
		a := oper.Do(w.Env, who, m, 7, 5)
		if a.Do {
			w.tree.Do(a.U)
			after := fmt.Sprint(rows(w.View))
			spoil(a)
			is(t, what+": the entries", fmt.Sprint(rows(w.View)), after)
		}
	}
}

// What a call answers hangs on what it is handed alone: calls of others between two change nothing.
func TestAlone(t *testing.T) {
	w := sample(t)
	want := map[string]string{}
	for what, m := range requests() {
		want[what] = told(w.ask(root, m))
	}
	for range 20 {
		for what, m := range requests() {
			is(t, what, told(w.ask(root, m)), want[what])
			other := sample(t)
			other.now, other.salt = 9, 1000
			is(t, what+" elsewhere", told(other.ask(root, m)) == "", false)
		}
	}
}
