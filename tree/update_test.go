package tree_test

import (
	"fmt"
	"math"
	"strings"
	"testing"

	"castellan/api"
	"castellan/dn"
)

// under answers a name with RDNs of others ahead of it.
func under(base string, others ...api.DN) api.DN {
	d := name(base)
	for _, other := range others {
		d = dn.Join(d, other...)
	}
	return d
}

// P16.3: Added: what is told first, and what is there then.
func TestAdded(t *testing.T) {
	x := empty(t, name("ou=s,dc=z"))
	for _, c := range []struct {
		d    api.DN
		want int
	}{
		{nil, 32}, {name("dc=z"), 32}, {name("ou=t,dc=z"), 32}, {name("cn=a,ou=s,dc=z"), 32}, {name("ou=s"), 32}, {name("ou=s,dc=z,dc=z"), 32},
		{api.DN{nil}, 34}, {append(api.DN{nil}, name("ou=s,dc=z")...), 34}, {deep(33), 34}, {long(4097), 34}, {api.DN{wide(9)}, 34}, {api.DN{{{Type: "a_b"}}}, 34},
		{name("OU=S,DC=Z"), 0},
		{name("ou=s,dc=z"), 68}, {name("ou=S,dc=z"), 68}, {nil, 32}, {name("dc=z"), 32},
		{name("cn=b,cn=a,ou=s,dc=z"), 32}, {name("CN=a,ou=s,dc=Z"), 0}, {name("cn=A,ou=s,dc=z"), 68}, {name("cn=b,cn=a,ou=s,dc=z"), 0}, {name("cn=b,ou=s,dc=z"), 0},
		{append(api.DN{{}}, name("cn=a,ou=s,dc=z")...), 34}, {append(api.DN{{{Type: "cn", Value: "a"}, {Type: "CN", Value: "a"}}}, name("ou=s,dc=z")...), 34},
		{under("ou=s,dc=z", api.DN{{{Type: "cn", Value: strings.Repeat("x", 4096-len("cn=,ou=s,dc=z"))}}}), 0},
		{under("ou=s,dc=z", api.DN{{{Type: "cn", Value: strings.Repeat("x", 4097-len("cn=,ou=s,dc=z"))}}}), 34},
		{under("ou=s,dc=z", api.DN{wide(8)}), 0}, {under("ou=s,dc=z", api.DN{wide(9)}), 34},
	} {
		does(t, x, api.Update{Kind: api.Added, DN: c.d, To: name("dc=no"), Attrs: attr("a", "b")}, c.want)
	}
	is(t, "as they are spelt", namesOf(x.View, []int{1, 2, 3, 4}), "OU=S,DC=Z | CN=a,ou=s,dc=Z | cn=b,cn=a,ou=s,dc=z | cn=b,ou=s,dc=z")
	for i := range 28 {
		done(t, x, api.Update{Kind: api.Added, DN: under("cn=b,cn=a,ou=s,dc=z", chain(i+1))})
	}
	does(t, x, api.Update{Kind: api.Added, DN: under("cn=b,cn=a,ou=s,dc=z", chain(28))}, api.EntryExists)
	does(t, x, api.Update{Kind: api.Added, DN: under("cn=b,cn=a,ou=s,dc=z", chain(29))}, api.InvalidDN)
}

// chain answers so many RDNs, of which fewer are the end of more.
func chain(rdns int) api.DN {
	var d api.DN
	for i := rdns; i > 0; i-- {
		d = append(d, api.RDN{{Type: "cn", Value: fmt.Sprint(i)}})
	}
	return d
}

// P16.3: an entry that is added has just the Attrs, whatever they are.
func TestAttributes(t *testing.T) {
	x := grown(t, "dc=z")
	for i, attrs := range [][]api.Attr{nil, {}, {{}}, {{Name: "a"}, {Name: "a"}, {Name: "\xff", Values: []string{"", "", "\x00"}}}, {{Name: "objectClass", Values: []string{"b", "a"}}, {Name: "cn", Values: []string{"x"}}}} {
		d := under("dc=z", api.DN{{{Type: "cn", Value: fmt.Sprint(i)}}})
		done(t, x, api.Update{Kind: api.Added, DN: d, Attrs: attrs})
		_, got := x.Entry(x.Find(d))
		is(t, "added", told(got), told(attrs))
		done(t, x, api.Update{Kind: api.Changed, DN: name("dc=z"), Attrs: attrs})
		_, got = x.Entry(1)
		is(t, "changed", told(got), told(attrs))
	}
}

// P16.3: no more than MaxEntries; what else is wrong is told ahead of that, and what isn't added can be done.
func TestFull(t *testing.T) {
	x := grown(t, "dc=z")
	for i := range api.MaxEntries - 1 {
		u := add(fmt.Sprintf("cn=%d,dc=z", i))
		is(t, "Able", x.Able(u), api.Success)
		is(t, "Do", x.Do(u), api.Success)
	}
	is(t, "Len", x.Len(), 4096)
	for _, c := range []struct {
		u    api.Update
		want int
	}{
		{add("cn=x,dc=z"), 80}, {add("cn=x,cn=7,dc=z"), 80}, {add("cn=7,dc=z"), 68}, {add("cn=x,cn=y,dc=z"), 32}, {add(""), 32}, {api.Update{Kind: api.Added, DN: deep(33)}, 34},
		{change("cn=7,dc=z", attr("a", "b")...), 0}, {move("cn=8,dc=z", "cn=x,dc=z"), 0}, {move("cn=9,dc=z", "cn=7,dc=z"), 68}, {del("cn=9,dc=z"), 0},
		{add("cn=8,dc=z"), 0}, {add("cn=9,dc=z"), 80},
	} {
		does(t, x, c.u, c.want)
	}
	is(t, "Len", x.Len(), 4096)
	is(t, "the ID that is given last", x.Find(name("cn=8,dc=z")), 4097)
	is(t, "all", len(x.Scope(1, 2)), 4096)
	is(t, "all beneath the suffix", len(x.Scope(1, 1)), 4095)
}

// P16.3: Deleted: only of what is there and is no parent; its ID doesn't come again.
func TestDeleted(t *testing.T) {
	x := grown(t, "dc=z", "ou=a,dc=z", "cn=b,ou=a,dc=z", "ou=c,dc=z")
	for _, c := range []struct {
		u    api.Update
		want int
	}{
		{del(""), 32}, {del("dc=y"), 32}, {del("cn=b,dc=z"), 32}, {del("cn=b,ou=c,dc=z"), 32}, {api.Update{Kind: api.Deleted, DN: deep(33)}, 32}, {api.Update{Kind: api.Deleted, DN: api.DN{nil}}, 32},
		{del("dc=z"), 66}, {del("OU=A,dc=z"), 66}, {del("CN=B,ou=A,dc=Z"), 0}, {del("cn=b,ou=a,dc=z"), 32}, {del("ou=a,dc=z"), 0}, {del("dc=z"), 66}, {add("cn=b,ou=a,dc=z"), 32},
		{add("ou=a,dc=z"), 0}, {del("ou=a,dc=z"), 0}, {del("ou=c,dc=z"), 0}, {del("dc=z"), 0}, {del("dc=z"), 32}, {add("ou=a,dc=z"), 32}, {change("dc=z"), 32}, {move("dc=z", "dc=z"), 32},
	} {
		does(t, x, c.u, c.want)
	}
	is(t, "none is left", all(x.View), "0 ")
	is(t, "Suffix", text(x.Suffix()), "dc=z")
	for id := range 8 {
		absent(t, x.View, id)
	}
	done(t, x, add("DC=z"))
	done(t, x, add("ou=a,dc=z"))
	is(t, "others are new", all(x.View), "2 6 DC=z  1 | 7 ou=a,dc=z  0")
}

// P16.3: Changed: there are other attributes, and nothing else is other than it was.
func TestChanged(t *testing.T) {
	x := grown(t, "dc=z", "ou=A,dc=z", "cn=b,ou=a,dc=z")
	done(t, x, change("OU=a,DC=z", api.Attr{Name: "x", Values: []string{"1", "2"}}, api.Attr{Name: "y"}))
	done(t, x, change("dc=z", attr("d", "z")...))
	is(t, "all", all(x.View), `3 1 dc=z d: ["z"] 1 | 2 ou=A,dc=z x: ["1" "2"]; y: [] 1 | 3 cn=b,ou=a,dc=z  0`)
	done(t, x, api.Update{Kind: api.Changed, DN: name("ou=a,dc=z"), To: name("ou=q,dc=z"), Attrs: attr("z", "3")})
	done(t, x, change("dc=z"))
	is(t, "all", all(x.View), `3 1 dc=z  1 | 2 ou=A,dc=z z: ["3"] 1 | 3 cn=b,ou=a,dc=z  0`)
	for _, d := range []api.DN{nil, name("dc=y"), name("ou=b,dc=z"), name("cn=b,dc=z"), deep(33), long(4097), {nil}} {
		does(t, x, api.Update{Kind: api.Changed, DN: d, Attrs: attr("a", "b")}, api.NoSuchObject)
	}
}

// P16.3: Moved: what is told first.
func TestMovedCodes(t *testing.T) {
	x := grown(t, "ou=s,dc=z", "ou=a,ou=s,dc=z", "cn=b,ou=a,ou=s,dc=z", "cn=c,cn=b,ou=a,ou=s,dc=z", "ou=d,ou=s,dc=z")
	none, twice := api.DN{nil}, api.DN{{{Type: "cn", Value: "a"}, {Type: "CN", Value: "b"}}}
	for _, c := range []struct {
		d, to api.DN
		want  int
	}{
		{nil, name("ou=e,ou=s,dc=z"), 32}, {name("ou=e,ou=s,dc=z"), name("ou=a,ou=s,dc=z"), 32}, {name("dc=z"), name("dc=z"), 32}, {none, none, 32}, {deep(33), nil, 32},
		{name("OU=S,dc=z"), name("ou=s,dc=z"), 53}, {name("ou=s,dc=z"), none, 53}, {name("ou=s,dc=z"), nil, 53}, {name("ou=s,dc=z"), name("ou=x,ou=a,ou=s,dc=z"), 53},
		{name("ou=a,ou=s,dc=z"), nil, 34}, {name("ou=a,ou=s,dc=z"), none, 34}, {name("ou=a,ou=s,dc=z"), under("ou=s,dc=z", twice), 34}, {name("ou=a,ou=s,dc=z"), under("ou=a,ou=s,dc=z", twice), 34},
		{name("ou=a,ou=s,dc=z"), under("ou=s,dc=z", deep(31)), 34}, {name("ou=a,ou=s,dc=z"), under("ou=s,dc=z", long(4090)), 34}, {name("ou=a,ou=s,dc=z"), under("ou=s,dc=z", api.DN{wide(9)}), 34},
		{name("ou=a,ou=s,dc=z"), name("ou=x,OU=A,ou=s,dc=z"), 53}, {name("ou=a,ou=s,dc=z"), name("ou=x,cn=b,ou=a,ou=s,dc=z"), 53}, {name("ou=a,ou=s,dc=z"), name("cn=b,ou=a,ou=s,dc=z"), 53}, {name("ou=a,ou=s,dc=z"), name("x=1,y=2,ou=a,ou=s,dc=z"), 53},
		{name("ou=a,ou=s,dc=z"), name("ou=a"), 32}, {name("ou=a,ou=s,dc=z"), name("ou=a,dc=z"), 32}, {name("ou=a,ou=s,dc=z"), name("ou=s,dc=z"), 32}, {name("ou=a,ou=s,dc=z"), name("dc=z"), 32}, {name("ou=a,ou=s,dc=z"), name("ou=a,ou=e,ou=s,dc=z"), 32},
		{name("ou=a,ou=s,dc=z"), name("OU=D,ou=s,dc=z"), 68}, {name("cn=c,cn=b,ou=a,ou=s,dc=z"), name("cn=b,ou=a,ou=s,dc=z"), 68}, {name("ou=d,ou=s,dc=z"), name("cn=b,ou=a,ou=s,dc=z"), 68},
		{name("ou=a,ou=s,dc=z"), name("ou=a,ou=s,dc=z"), 0}, {name("ou=a,ou=s,dc=z"), name("OU=A,OU=s,dc=z"), 0}, {name("cn=b,ou=a,ou=s,dc=z"), name("CN=B,ou=a,ou=s,dc=z"), 0},
	} {
		does(t, x, api.Update{Kind: api.Moved, DN: c.d, To: c.to}, c.want)
	}
	is(t, "all", all(x.View), "5 1 ou=s,dc=z  2 | 2 OU=A,OU=s,dc=z  1 | 3 CN=B,ou=a,ou=s,dc=z  1 | 4 cn=c,CN=B,ou=a,ou=s,dc=z  0 | 5 ou=d,ou=s,dc=z  0")
}

// P16.3: Moved: names are as To is spelt, with what the lower ones had ahead of it; IDs stay, and so do others.
func TestMoved(t *testing.T) {
	x := grown(t, "dc=z", "ou=A,dc=z", "cn=B,OU=a,dc=z", "sn=C,cn=b,ou=a,DC=z", "sn=D,CN=B,ou=a,dc=z", "ou=e,dc=z", "cn=b,ou=e,dc=z")
	done(t, x, change("cn=b,ou=a,dc=z", attr("x", "1")...))
	done(t, x, api.Update{Kind: api.Moved, DN: name("ou=a,DC=Z"), To: name("CN=New+x=1,OU=E,DC=z"), Attrs: attr("y", "2")})
	is(t, "all", all(x.View), `7 1 dc=z  1 | 6 ou=e,dc=z  2 | 7 cn=b,ou=e,dc=z  0 | 2 CN=New+x=1,OU=E,DC=z y: ["2"] 1 | 3 cn=B,CN=New+x=1,OU=E,DC=z x: ["1"] 2 | 4 sn=C,cn=b,CN=New+x=1,OU=E,DC=z  0 | 5 sn=D,CN=B,CN=New+x=1,OU=E,DC=z  0`)
	is(t, "by the old name", x.Find(name("cn=b,ou=a,dc=z")), 0)
	is(t, "by the old RDN", x.Find(name("ou=a,dc=z")), 0)
	is(t, "by the new one", x.Find(name("sn=c,cn=b,X=1+cn=new,ou=e,dc=z")), 4)
	does(t, x, move("ou=e,dc=z", "ou=q,cn=b,cn=new+x=1,ou=e,dc=z"), api.Unwilling)
	done(t, x, move("cn=b,cn=new+x=1,ou=e,dc=z", "ou=a,dc=z"))
	done(t, x, move("cn=new+x=1,ou=e,dc=z", "ou=f,ou=a,dc=z"))
	is(t, "the lower one is above", all(x.View), `7 1 dc=z  2 | 3 ou=a,dc=z  3 | 2 ou=f,ou=a,dc=z  0 | 4 sn=C,ou=a,dc=z  0 | 5 sn=D,ou=a,dc=z  0 | 6 ou=e,dc=z  1 | 7 cn=b,ou=e,dc=z  0`)
	done(t, x, del("cn=b,ou=e,dc=z"))
	done(t, x, del("ou=e,dc=z"))
	done(t, x, move("ou=a,dc=z", "ou=A b,dc=Z", attr("z", "3")...))
	done(t, x, add("ou=a,dc=z"))
	is(t, "its old name is free", all(x.View), `6 1 dc=z  2 | 8 ou=a,dc=z  0 | 3 ou=A b,dc=Z z: ["3"] 3 | 2 ou=f,ou=A b,dc=Z  0 | 4 sn=C,ou=A b,dc=Z  0 | 5 sn=D,ou=A b,dc=Z  0`)
}

// P16.3: an entry can't be moved, where one that lies under it had too many RDNs, or too long a text.
func TestMovedTooFar(t *testing.T) {
	x := grown(t, "dc=z", "ou=a,dc=z", "ou=b,dc=z")
	for i := range 28 {
		done(t, x, api.Update{Kind: api.Added, DN: under("ou=a,dc=z", chain(i+1))})
		if i < 2 {
			done(t, x, api.Update{Kind: api.Added, DN: under("ou=b,dc=z", chain(i+1))})
		}
	}
	is(t, "RDNs of the lowest one", len(under("ou=a,dc=z", chain(28))), 30)
	does(t, x, move("ou=a,dc=z", "ou=x,cn=2,cn=1,ou=b,dc=z"), api.InvalidDN)
	does(t, x, move("ou=a,dc=z", "cn=2,cn=1,ou=b,dc=z"), api.EntryExists)
	done(t, x, move("ou=a,dc=z", "ou=x,cn=1,ou=b,dc=z"))
	is(t, "the lowest one", x.Find(under("ou=x,cn=1,ou=b,dc=z", chain(28))), 33)
	does(t, x, move("cn=1,ou=b,dc=z", "cn=1,cn=2,cn=1,ou=b,dc=z"), api.Unwilling)

	x = grown(t, "dc=z", "ou=a,dc=z", "cn=b,ou=a,dc=z", "ou=c,dc=z")
	lowest := under("cn=b,ou=a,dc=z", long(4096-len(",cn=b,ou=a,dc=z")))
	done(t, x, api.Update{Kind: api.Added, DN: lowest})
	does(t, x, move("ou=a,dc=z", "ou=aa,dc=z"), api.InvalidDN)
	does(t, x, move("cn=b,ou=a,dc=z", "cn=bb,ou=a,dc=z"), api.InvalidDN)
	does(t, x, move("cn=b,ou=a,dc=z", `cn=\,,ou=a,dc=z`), api.InvalidDN)
	does(t, x, move("cn=b,ou=a,dc=z", "cn=bb,ou=x,dc=z"), api.NoSuchObject)
	does(t, x, move("ou=a,dc=z", "ou=cc,dc=z"), api.InvalidDN)
	does(t, x, move("ou=a,dc=z", "ou=c,dc=z"), api.EntryExists)
	done(t, x, move("ou=a,dc=z", "ou=x,dc=z"))
	done(t, x, move("ou=x,dc=z", "o=xx,dc=z"))
	done(t, x, move("cn=b,o=xx,dc=z", "ou=,ou=c,dc=z"))
	is(t, "all", x.Find(under("ou=,ou=c,dc=z", lowest[:1])), 5)
	// The keys are as they were, but the text is longer.
	does(t, x, move("ou=,ou=c,dc=z", `ou=\ \ ,ou=c,dc=z`), api.InvalidDN)
	does(t, x, move("ou=c,dc=z", `ou=\ c,dc=z`), api.InvalidDN)
}

// P16.3: an update of no kind.
func TestNoKind(t *testing.T) {
	x := grown(t, "dc=z", "cn=a,dc=z")
	for _, kind := range []int{0, -1, 5, 6, math.MaxInt, math.MinInt, 1 << 32, 1<<32 + 1} {
		for _, d := range []api.DN{nil, name("dc=z"), name("cn=a,dc=z"), name("cn=b,dc=z"), {nil}} {
			does(t, x, api.Update{Kind: kind, DN: d, To: name("cn=c,dc=z"), Attrs: attr("a", "b")}, api.OperationsErr)
		}
	}
}

// A tree's view goes with it: what is done in the tree is seen by the view that was told before.
func TestViewGoesAlong(t *testing.T) {
	x := empty(t, name("dc=z"))
	v := x.View
	other := empty(t, name("dc=z"))
	done(t, x, add("dc=z"))
	done(t, x, add("cn=a,dc=z"))
	is(t, "the view", all(v), "2 1 dc=z  1 | 2 cn=a,dc=z  0")
	is(t, "another tree", all(other.View), "0 ")
	done(t, x, del("cn=a,dc=z"))
	is(t, "the view", all(v), "1 1 dc=z  0")
}

// fill answers an update whose lists have spare room, all of which is written over by spoil.
func fill() (api.Update, func()) {
	values := append(make([]string, 0, 5), "x", "y")
	attrs := append(make([]api.Attr, 0, 3), api.Attr{Name: "n", Values: values})
	rdn := append(make(api.RDN, 0, 3), api.AVA{Type: "cn", Value: "a"})
	d := append(make(api.DN, 0, 4), rdn, api.RDN{{Type: "dc", Value: "z"}})
	toRDN := append(make(api.RDN, 0, 3), api.AVA{Type: "cn", Value: "b"})
	to := append(make(api.DN, 0, 4), toRDN, api.RDN{{Type: "dc", Value: "z"}})
	u := api.Update{DN: d, To: to, Attrs: attrs}
	return u, func() {
		spoilName(u.DN)
		spoilName(u.To)
		spoilAttrs(u.Attrs)
	}
}

// spoilName writes over a name and all its spare room.
func spoilName(d api.DN) {
	d = d[:cap(d)]
	for i, rdn := range d {
		rdn = rdn[:cap(rdn)]
		for j := range rdn {
			rdn[j] = api.AVA{Type: "spoilt", Value: "spoilt"}
		}
		d[i] = api.RDN{{Type: "spoilt"}}
	}
}

// spoilAttrs writes over attributes and all their spare room.
func spoilAttrs(attrs []api.Attr) {
	attrs = attrs[:cap(attrs)]
	for i, a := range attrs {
		values := a.Values[:cap(a.Values)]
		for j := range values {
			values[j] = "spoilt"
		}
		attrs[i] = api.Attr{Name: "spoilt", Values: []string{"spoilt"}}
	}
}

// room answers all memory of an update as a text, spare room, too.
func room(u api.Update) string {
	out := fmt.Sprint(u.Kind)
	for _, d := range []api.DN{u.DN, u.To} {
		for _, rdn := range d[:cap(d)] {
			out += fmt.Sprint(rdn[:cap(rdn)])
		}
	}
	for _, a := range u.Attrs[:cap(u.Attrs)] {
		out += fmt.Sprint(a.Name, a.Values[:cap(a.Values)])
	}
	return out
}

// Memory: what is handed in stays, and isn't kept.
func TestNothingIsKept(t *testing.T) {
	suffix := append(make(api.DN, 0, 3), append(make(api.RDN, 0, 2), api.AVA{Type: "dc", Value: "z"}))
	x := empty(t, suffix)
	spoilName(suffix)
	is(t, "Suffix", text(x.Suffix()), "dc=z")
	done(t, x, add("dc=z"))
	wants := []string{"", `2 1 dc=z  1 | 2 cn=a,dc=z n: ["x" "y"] 0`, "1 1 dc=z  0", `2 1 dc=z  1 | 2 cn=a,dc=z n: ["x" "y"] 0`, `2 1 dc=z  1 | 2 cn=b,dc=z n: ["x" "y"] 0`}
	for _, kind := range []int{api.Added, api.Changed, api.Moved} {
		u, spoil := fill()
		u.Kind = kind
		before := room(u)
		is(t, "Able", x.Able(u), api.Success)
		is(t, "Do", x.Do(u), api.Success)
		x.Find(u.DN)
		x.Matched(u.To)
		is(t, "what was handed in", room(u), before)
		is(t, "all", all(x.View), wants[kind])
		spoil()
		is(t, "all behind a change of what was handed in", all(x.View), wants[kind])
	}
	u, _ := fill()
	u.Kind, u.DN = api.Deleted, u.To
	before := room(u)
	done(t, x, u)
	is(t, "what was handed in", room(u), before)
	is(t, "all", all(x.View), wants[api.Deleted])
}

// Memory: answers are new, and share none with another one.
func TestAnswersAreNew(t *testing.T) {
	x := grown(t, "dc=z", "ou=a,dc=z", "cn=b,ou=a,dc=z")
	done(t, x, change("ou=a,dc=z", attr("n", "x", "y")...))
	done(t, x, move("ou=a,dc=z", "ou=b,dc=z", attr("n", "x", "y")...))
	want := all(x.View)
	spoilName(x.Suffix())
	is(t, "Suffix", text(x.Suffix()), "dc=z")
	for id := 1; id < 4; id++ {
		other, otherAttrs := x.Entry(id)
		before, attrsBefore := text(other), told(otherAttrs)
		d, attrs := x.Entry(id)
		spoilName(d)
		spoilAttrs(attrs)
		spoilName(x.Matched(other))
		for scope := range 3 {
			ids := x.Scope(id, scope)
			again := fmt.Sprint(x.Scope(id, scope))
			list := ids[:cap(ids)]
			for i := range list {
				list[i] = -1
			}
			is(t, "Scope again", fmt.Sprint(x.Scope(id, scope)), again)
		}
		is(t, "another answer's name", text(other), before)
		is(t, "its attributes", told(otherAttrs), attrsBefore)
	}
	is(t, "all", all(x.View), want)
	// One move gives a name's RDNs to several entries: each has its own.
	d, _ := x.Entry(2)
	spoilName(d)
	is(t, "the lower one", text(x.Matched(name("cn=b,ou=b,dc=z"))), "cn=b,ou=b,dc=z")
}

// Memory: lists that stand in several places of one update are several in the tree.
func TestSharedLists(t *testing.T) {
	values := []string{"x", "y"}
	attrs := []api.Attr{{Name: "n", Values: values}, {Name: "m", Values: values[:1]}}
	d := name("cn=a,dc=z")
	x := grown(t, "dc=z")
	done(t, x, api.Update{Kind: api.Added, DN: d, To: d, Attrs: attrs})
	done(t, x, api.Update{Kind: api.Moved, DN: d, To: d, Attrs: attrs})
	_, got := x.Entry(2)
	got[0].Values[0] = "spoilt"
	is(t, "the other list", got[1].Values[0], "x")
	is(t, "all", all(x.View), `2 1 dc=z  1 | 2 cn=a,dc=z n: ["x" "y"]; m: ["x"] 0`)
}
