package acl_test

import (
	"fmt"
	"math"
	"math/rand"
	"slices"
	"strings"
	"testing"

	"castellan/acl"
	"castellan/api"
	"castellan/schema"
)

// The chapter's example.
func TestExample(t *testing.T) {
	b := made(t, "cn=root",
		api.Rule{Who: api.Self, Attr: "userPassword", Rights: api.Write, Allow: true},
		api.Rule{Who: api.Anybody, Attr: "userPassword", Rights: 15},
		api.Rule{Who: api.Known, Rights: api.See | api.Read | api.Compare, Allow: true})
	a, other := name("cn=a,dc=z"), name("cn=b,dc=z")
	is(t, "write one's own", b.May(a, a, "userPassword", api.Write), true)
	is(t, "write another's", b.May(a, other, "userPassword", api.Write), false)
	is(t, "read one's own", b.May(a, a, "userPassword", api.Read), false)
	is(t, "read another's", b.May(a, other, "userPassword", api.Read), false)
	is(t, "read another's cn", b.May(a, other, "cn", api.Read), true)
	is(t, "see another", b.May(a, other, "", api.See), true)
	is(t, "write another", b.May(a, other, "", api.Write), false)
	is(t, "nobody known", b.May(nil, other, "cn", api.Read), false)
}

// all is a rule that allows somebody all of everything.
func all(who int, d string) api.Rule {
	return api.Rule{Who: who, DN: d, Rights: 15, Allow: true}
}

// P22.2: of whom a rule speaks.
func TestWho(t *testing.T) {
	for _, c := range []struct {
		rule api.Rule
		yes  []string
		no   []string
	}{
		{all(api.Anybody, ""), []string{"", "cn=a,dc=z", "cn=b"}, nil},
		{all(api.Known, ""), []string{"cn=a,dc=z", "cn=b"}, []string{""}},
		{all(api.Self, ""), []string{"cn=a,dc=z", "CN=A,DC=Z", "Cn=a,dc=z"}, []string{"", "cn=b,dc=z", "dc=z", "cn=x,cn=a,dc=z", "cn=a\\,dc=z", "cn=a"}},
		{all(api.Exactly, "cn=A  b+sn=c,dc=z"), []string{"cn=a b+sn=c,dc=z", "SN=C+CN=a   B,DC=Z"}, []string{"", "cn=ab+sn=c,dc=z", "cn=a b,dc=z", "dc=z", "cn=x,cn=a b+sn=c,dc=z"}},
		{all(api.Exactly, ""), []string{""}, []string{"cn=a,dc=z", "dc=z"}},
		{all(api.Within, "OU=x,dc=z"), []string{"ou=X,dc=z", "cn=a,ou=x,dc=z", "cn=b,cn=a,OU=X,dc=Z"}, []string{"", "dc=z", "cn=a,dc=z", "ou=x", "cn=a\\,ou=x,dc=z", "ou=x,dc=z,dc=y", "cn=a,ou=y,dc=z"}},
		{all(api.Within, ""), []string{"dc=z", "cn=a,dc=z", "cn=root"}, []string{""}},
	} {
		b := made(t, "cn=root,dc=y", c.rule)
		for who, want := range map[bool][]string{true: c.yes, false: c.no} {
			for _, text := range want {
				is(t, fmt.Sprintf("%+v of %q", c.rule, text), b.May(name(text), name("cn=a,dc=z"), "cn", api.Read), who)
				is(t, fmt.Sprintf("%+v of %q, the entry itself", c.rule, text), b.May(name(text), name("cn=a,dc=z"), "", api.See), who)
			}
		}
	}
	// Names that are the same are so without RDNs, too.
	is(t, "Self, nobody known", made(t, "", all(api.Self, "")).May(nil, api.DN{}, "", api.See), true)
}

// P22.2: of which entries a rule speaks.
func TestWhere(t *testing.T) {
	for where, entries := range map[string][2]string{
		"":             {";dc=z;cn=a,dc=z;cn=b", "-"},
		"dc=z":         {"dc=z;DC=Z;cn=a,dc=z;cn=b,cn=a,Dc=z", ";dc=y;cn=a\\,dc=z;dc=z,dc=y;cn=dc=z;dc=zz;cn=a"},
		"cn=A+sn=B":    {"sn=b+cn=a;ou=x,cn=a+sn=b", ";cn=a;sn=b;cn=a,sn=b;cn=a+sn=b,dc=z;sn=b+cn=a+ou=c"},
		"CN=a  b,dc=z": {"cn=a b,dc=z;ou=x,cn=A   B,dc=z", "dc=z;cn=ab,dc=z;ou=x,dc=z"},
	} {
		b := made(t, "", api.Rule{Where: where, Rights: 15, Allow: true})
		for i, list := range entries {
			if list == "-" {
				continue
			}
			for _, text := range strings.Split(list, ";") {
				is(t, fmt.Sprintf("%q where %q", text, where), b.May(name("cn=a"), name(text), "cn", api.Read), i == 0)
				is(t, fmt.Sprintf("%q itself where %q", text, where), b.May(nil, name(text), "", api.Read), i == 0)
			}
		}
	}
}

// P22.2: of which attributes a rule speaks.
func TestAttr(t *testing.T) {
	entry := name("cn=a,dc=z")
	one, every := made(t, "", api.Rule{Attr: "userPassword", Rights: 15, Allow: true}), made(t, "", api.Rule{Rights: 15, Allow: true})
	for attr, want := range map[string]bool{"userPassword": true, "USERPASSWORD": true, "userpassword": true, "": false, "cn": false, "userPassword ": false, "userPasswor": false, "none": false, "u\u017ferPassword": false} {
		is(t, "one: "+attr, one.May(nil, entry, attr, api.Read), want)
		is(t, "every: "+attr, every.May(nil, entry, attr, api.Read), true)
	}
	// A rule that speaks of one attribute doesn't speak of the entry itself; one that speaks of that does of all.
	b := made(t, "", api.Rule{Attr: "cn", Rights: 15}, api.Rule{Rights: 15, Allow: true})
	is(t, "the entry itself", b.May(nil, entry, "", api.See), true)
	is(t, "another attribute", b.May(nil, entry, "sn", api.See), true)
	is(t, "that attribute", b.May(nil, entry, "Cn", api.See), false)
}

// P22.2: of which rights a rule speaks; false of numbers that are no right, also of the one who may all.
func TestRights(t *testing.T) {
	entry := name("cn=a,dc=z")
	for rights := 1; rights < 16; rights++ {
		b := made(t, "cn=root", api.Rule{Rights: rights, Allow: true})
		for right := -1; right < 40; right++ {
			one := right == 1 || right == 2 || right == 4 || right == 8
			what := fmt.Sprint(right, " of ", rights)
			is(t, what, b.May(name("cn=x"), entry, "cn", right), one && rights&right != 0)
			is(t, what+", who may all", b.May(name("cn=root"), entry, "cn", right), one)
		}
		for _, right := range []int{math.MinInt, math.MaxInt, 1<<32 + 1, -2, -8} {
			is(t, fmt.Sprint(right), b.May(name("cn=root"), entry, "", right), false)
		}
	}
}

// P22.2: the first rule that speaks of it decides; where there is none, nobody may.
func TestFirst(t *testing.T) {
	entry := name("cn=a,dc=z")
	yes, no := api.Rule{Rights: 15, Allow: true}, api.Rule{Rights: 15}
	is(t, "none", made(t, "").May(nil, entry, "cn", api.Read), false)
	is(t, "allowed", made(t, "", yes, no).May(nil, entry, "cn", api.Read), true)
	is(t, "denied", made(t, "", no, yes).May(nil, entry, "cn", api.Read), false)
	for what, rule := range map[string]api.Rule{
		"who": {Who: api.Known, Rights: 15}, "Where": {Where: "dc=y", Rights: 15}, "Attr": {Attr: "sn", Rights: 15}, "Rights": {Rights: 13},
	} {
		is(t, "none that speaks of it: "+what, made(t, "", rule, yes).May(nil, entry, "cn", api.Read), true)
		rule.Allow = true
		is(t, "none that speaks of it, allowed: "+what, made(t, "", rule).May(nil, entry, "cn", api.Read), false)
	}
}

// P22.2: who may all.
func TestAdmin(t *testing.T) {
	deny := api.Rule{Rights: 15}
	b := made(t, "cn=Root+ou=X,dc=z", deny, api.Rule{Who: api.Exactly, DN: "cn=root+ou=x,dc=z", Rights: 15})
	for _, right := range []int{api.See, api.Read, api.Compare, api.Write} {
		for _, attr := range []string{"", "cn", "userPassword", "none", "\xff"} {
			for _, entry := range []string{"", "dc=y", "cn=a,dc=z", "cn=root+ou=x,dc=z"} {
				what := fmt.Sprintf("%d, %q of %q", right, attr, entry)
				is(t, what, b.May(name("OU=x+CN=ROOT,DC=z"), name(entry), attr, right), true)
				is(t, what+", beneath", b.May(name("cn=a,ou=x+cn=root,dc=z"), name(entry), attr, right), false)
				is(t, what+", above", b.May(name("dc=z"), name(entry), attr, right), false)
				is(t, what+", nobody known", b.May(nil, name(entry), attr, right), false)
			}
		}
	}
	// The name without RDNs is nobody's who may all.
	none := made(t, "", api.Rule{Attr: "cn", Rights: api.Read, Allow: true})
	is(t, "nobody known", none.May(nil, name("cn=a"), "sn", api.Read), false)
	is(t, "nobody known, by a rule", none.May(api.DN{}, name("cn=a"), "cn", api.Read), true)
	is(t, "somebody", none.May(name("cn=a"), name("cn=a"), "sn", api.Read), false)
}

// P22.2: names that can't be printed, and a nil book: nobody may, not even who may all.
func TestFalse(t *testing.T) {
	b, list := made(t, "cn=root", all(api.Anybody, "")), []api.Attr{{Name: "cn"}}
	for what, d := range strange() {
		for _, right := range []int{api.See, api.Read, api.Compare, api.Write} {
			is(t, what+": who", b.May(d, name("cn=a"), "cn", right), false)
			is(t, what+": entry", b.May(name("cn=a"), d, "cn", right), false)
			is(t, what+": entry, who may all", b.May(name("cn=root"), d, "", right), false)
			is(t, what+": both", b.May(d, d, "", right), false)
			is(t, what+": All", b.All(d, name("cn=a"), right) || b.All(name("cn=a"), d, right, "cn"), false)
			is(t, what+": Seen", len(b.Seen(d, name("cn=a"), list, right))+len(b.Seen(name("cn=root"), d, list, right)), 0)
		}
	}
	var none *acl.Book
	is(t, "nil: May", none.May(name("cn=root"), name("cn=root"), "cn", api.Read), false)
	is(t, "nil: All", none.All(nil, nil, api.Read), false)
	is(t, "nil: All of one", none.All(name("cn=a"), nil, api.Read, "cn"), false)
	is(t, "nil: Seen", len(none.Seen(name("cn=a"), name("cn=a"), list, api.Read)), 0)
}

// P22.3: All is May of the entry itself and of each attribute.
func TestAll(t *testing.T) {
	entry := name("cn=a,dc=z")
	b := made(t, "cn=root", api.Rule{Attr: "cn", Rights: api.Read | api.Write, Allow: true}, api.Rule{Attr: "sn", Rights: 15, Allow: true}, api.Rule{Attr: "userPassword", Rights: 15}, api.Rule{Rights: api.See | api.Read, Allow: true})
	for _, c := range []struct {
		right int
		attrs string
		want  bool
	}{
		{api.Read, "", true}, {api.Read, "cn", true}, {api.Read, "CN SN", true}, {api.Read, "cn sn description", true}, {api.Read, "cn userPassword", false}, {api.Read, "userPassword cn", false}, {api.Read, "cn cn none", true},
		{api.Write, "", false}, {api.Write, "cn", false}, {api.Write, "cn sn", false}, {api.Compare, "sn", false}, {api.See, "sn", true}, {0, "", false}, {3, "sn", false},
	} {
		is(t, fmt.Sprint(c), b.All(nil, entry, c.right, strings.Fields(c.attrs)...), c.want)
	}
	is(t, "who may all", b.All(name("cn=root"), entry, api.Write, "userPassword", "none"), true)
	is(t, "the empty text", made(t, "", api.Rule{Attr: "cn", Rights: 15, Allow: true}).All(nil, entry, api.Read, ""), false)
}

// P22.3: Seen has the attributes of which May is true, as they are, in their order; the entry itself plays no part.
func TestSeen(t *testing.T) {
	entry := name("cn=a,dc=z")
	list := []api.Attr{{Name: "SN", Values: []string{"B", "a"}}, {Name: "cn"}, {Name: "none", Values: []string{"x"}}, {Name: "userPassword", Values: []string{"\xff", ""}}, {Name: "sn", Values: []string{"c"}}}
	b := made(t, "cn=root", api.Rule{Attr: "userPassword", Rights: 15}, api.Rule{Attr: "sn", Rights: api.Read | api.Write, Allow: true}, api.Rule{Who: api.Known, Rights: api.Read, Allow: true})
	is(t, "nobody known", told(b.Seen(nil, entry, list, api.Read)), `SN: ["B" "a"]; sn: ["c"]`)
	is(t, "somebody", told(b.Seen(name("cn=b"), entry, list, api.Read)), `SN: ["B" "a"]; cn: []; none: ["x"]; sn: ["c"]`)
	is(t, "by Write", told(b.Seen(name("cn=b"), entry, list, api.Write)), `SN: ["B" "a"]; sn: ["c"]`)
	is(t, "by See", told(b.Seen(name("cn=b"), entry, list, api.See)), "")
	is(t, "by no right", told(b.Seen(name("cn=root"), entry, list, 6)), "")
	is(t, "who may all", told(b.Seen(name("cn=root"), entry, list, api.Compare)), told(list))
	is(t, "none", told(b.Seen(name("cn=root"), entry, nil, api.Read)), "")
}

// P22.2, P22.3: books by chance are asked by chance: all is as said in another way.
func TestSome(t *testing.T) {
	r := rand.New(rand.NewSource(22))
	yes, no := 0, 0
	for range 4000 {
		admin, rules := someName(r), []api.Rule(nil)
		for range r.Intn(6) {
			rules = append(rules, someRule(r))
		}
		b := made(t, admin, rules...)
		for range 12 {
			who, entry, right := name(someName(r)), name(someName(r)), 1<<r.Intn(4)
			may := func(attr string) bool { return plain(admin, rules, who, entry, attr, right) }
			what := fmt.Sprintf("%d of %v by %v, admin %q, %+v", right, entry, who, admin, rules)
			var attrs []string
			var list, seen []api.Attr
			every := may("")
			for range r.Intn(3) {
				attr := someAttr(r)
				attrs, list = append(attrs, attr), append(list, api.Attr{Name: attr, Values: []string{attr}})
				is(t, what+" "+attr, b.May(who, entry, attr, right), may(attr))
				if may(attr) {
					seen = append(seen, list[len(list)-1])
				}
				every = every && may(attr)
			}
			is(t, what+" itself", b.May(who, entry, "", right), may(""))
			is(t, fmt.Sprint(what, " all of ", attrs), b.All(who, entry, right, attrs...), every)
			is(t, fmt.Sprint(what, " seen of ", attrs), told(b.Seen(who, entry, list, right)), told(seen))
			if may("") {
				yes++
			} else {
				no++
			}
		}
	}
	if yes < 4000 || no < 4000 {
		t.Errorf("too few: %d that may, %d that may not", yes, no)
	}
}

// P22.4: what stands behind the rule that decides makes no difference.
func TestBehind(t *testing.T) {
	r := rand.New(rand.NewSource(224))
	decided := 0
	for range 6000 {
		who, entry, attr, right := name(someName(r)), name(someName(r)), someAttr(r), 1<<r.Intn(4)
		var rules []api.Rule
		at := -1
		for i := range 8 {
			rules = append(rules, someRule(r))
			// The rule that decides is the first by which it makes a difference whether it allows.
			other := slices.Clone(rules)
			other[i].Allow = !other[i].Allow
			if at < 0 && plain("", rules, who, entry, attr, right) != plain("", other, who, entry, attr, right) {
				at = i
			}
		}
		if at < 0 {
			continue
		}
		decided++
		want := rules[at].Allow
		for count := at + 1; count <= len(rules); count++ {
			is(t, fmt.Sprintf("%d of %+v", count, rules), made(t, "", rules[:count]...).May(who, entry, attr, right), want)
		}
		rules[at].Allow = !want
		is(t, fmt.Sprintf("the other way: %+v", rules), made(t, "", rules...).May(who, entry, attr, right), !want)
	}
	if decided < 2000 {
		t.Errorf("too few that are decided: %d", decided)
	}
}

// Memory: what is handed in stays as it is and isn't kept; what is answered is other memory.
func TestMemory(t *testing.T) {
	core, admin := schema.Core(), name("cn=root,dc=z")
	rules := []api.Rule{{Who: api.Exactly, DN: "CN=A", Where: "DC=Z", Attr: "CN", Rights: 3, Allow: true}, {Who: 9}}
	before := fmt.Sprintf("%#v %#v %#v", core, admin, rules)
	b, e := acl.New(core, admin, rules[:1]...)
	is(t, "error", e, api.OK)
	is(t, "what New was handed", fmt.Sprintf("%#v %#v %#v", core, admin, rules), before)
	who, entry := name("cn=a"), name("cn=b,dc=z")
	admin[0][0].Value, rules[0].DN, rules[0].Allow, rules[0].Rights = "other", "cn=q", false, 8
	clear(core.Types)
	is(t, "the rule as it was", b.May(who, entry, "cn", api.Read), true)
	is(t, "who may all as it was", b.May(name("cn=root,dc=z"), entry, "sn", api.Write), true)
	list := []api.Attr{{Name: "cn", Values: []string{"a", "b", "spare"}[:2]}, {Name: "CN", Values: []string{"c"}}, {Name: "cn", Values: []string{"spare"}}}
	attrs := []string{"cn", "CN", "spare"}
	names := fmt.Sprintf("%#v %#v", who, entry)
	before = fmt.Sprintf("%#v %#v %#v", list, list[0].Values[:3], attrs)
	first := b.Seen(who, entry, list[:2], api.Read)
	second := b.Seen(who, entry, list[:2], api.Read)
	is(t, "All", b.All(who, entry, api.Read, attrs[:2]...), false)
	for _, a := range first[:cap(first)] {
		values := a.Values[:cap(a.Values)]
		for i := range values {
			values[i] = "spoilt"
		}
	}
	clear(first[:cap(first)])
	is(t, "what Seen was handed", fmt.Sprintf("%#v %#v %#v", list, list[0].Values[:3], attrs), before)
	is(t, "names", fmt.Sprintf("%#v %#v", who, entry), names)
	is(t, "another answer", told(second), `cn: ["a" "b"]; CN: ["c"]`)
}

// What a book answers hangs on what it was made with alone.
func TestAlone(t *testing.T) {
	yes, no := made(t, "cn=a", all(api.Known, "")), made(t, "cn=b")
	for range 3 {
		is(t, "by one book", yes.May(name("cn=x"), name("cn=y"), "cn", api.Read), true)
		is(t, "by another", no.May(name("cn=x"), name("cn=y"), "cn", api.Read), false)
		is(t, "one's admin", no.May(name("cn=a"), name("cn=y"), "cn", api.Read), false)
		is(t, "another's admin", no.May(name("cn=b"), name("cn=y"), "cn", api.Read), true)
	}
}
