package oper_test

import (
	"fmt"
	"math"
	"strings"
	"testing"

	"castellan/api"
	"castellan/entry"
	"castellan/schema"
	"castellan/tree"
)

// allow answers a rule by which all may Write something, at or beneath an entry.
func allow(where, attr string) api.Rule {
	return api.Rule{Where: where, Attr: attr, Rights: api.Write, Allow: true}
}

// deny answers a rule by which nobody may Write something.
func deny(where, attr string) api.Rule { return api.Rule{Where: where, Attr: attr, Rights: api.Write} }

// P25.2: entries that are added, from the suffix's own on, as they are spelt.
func TestAdd(t *testing.T) {
	w := empty(t, schema.Core(), all())
	w.does("the suffix's own, which has no parent", "-", added("DC=Z", "objectClass:domain", "DC:z"), "0, do, added DC=Z [changedAt:7 createdAt:7 dc:z objectClass:domain]")
	w.does("again", "-", added("dc=z", "objectClass:domain", "dc:z"), "68")
	w.now = 8
	w.does("one beneath", "-", added("ou=X,dc=Z", "OU: x ", "description:d|C", "OBJECTCLASS:organizationalUnit"), "0, do, added ou=X,dc=Z [changedAt:8 createdAt:8 description:C|d objectClass:organizationalUnit ou: x ]")
	w.does("one of two types", "-", added("CN=a  B+sn=n,OU=x,dc=z", "cn:A b|c", "sn:N", "objectClass:person|top"), "0, do, added CN=a  B+sn=n,OU=x,dc=z [changedAt:8 cn:A b|c createdAt:8 objectClass:person|top sn:N]")
	w.does("the same", "-", added("cn=a b+SN=N,ou=x,dc=z", "cn:A b", "sn:N", "objectClass:person"), "68")
	w.does("a type that stands there twice", "-", added("ou=y,dc=z", "ou:Y", "objectClass:top", "ou:w", "objectclass:organizationalUnit"), "0, do, added ou=y,dc=z [changedAt:8 createdAt:8 objectClass:organizationalUnit|top ou:w|Y]")
	is(t, "entries", w.View.Len(), 4)
	for what, m := range map[string]api.Msg{
		"64": added("ou=v,dc=z", "ou:u", "objectClass:organizationalUnit"),
		"17": added("none=v,dc=z", "ou:u", "objectClass:organizationalUnit"),
		"21": added("active=v,dc=z", "ou:u", "objectClass:organizationalUnit"),
		"65": added("ou=v,dc=z"),
		"19": added("ou=v,dc=z", "ou", "objectClass:organizationalUnit"),
		"20": added("ou=v,dc=z", "ou:v", "OU:V", "objectClass:organizationalUnit"),
	} {
		w.wants("what doesn't fit: "+what, "-", m, what)
	}
	w.wants("no classes, of the suffix", root, added("dc=z", "dc:z"), "65")
	w.wants("another's suffix", root, added("dc=y", "dc:y", "objectClass:domain"), "32")
	w.wants("beneath another's", root, added("ou=v,dc=y", "ou:v", "objectClass:organizationalUnit"), "32")
	w.wants("beneath none", root, added("ou=v,ou=none,ou=x,dc=z", "ou:v", "objectClass:organizationalUnit"), "32, near ou=X,dc=Z")
	none := empty(t, schema.Core(), all())
	none.wants("ahead of the suffix's own", root, added("ou=v,dc=z", "ou:v", "objectClass:organizationalUnit"), "32")
}

// P25.2: the suffix may have several RDNs; those above it are no entries' names.
func TestAddSuffix(t *testing.T) {
	w := sample(t)
	x, _ := tree.New(name("ou=a,dc=z"))
	w.View, w.tree = x.View, x
	unit := []string{"ou:a", "objectClass:organizationalUnit"}
	w.wants("above it", "-", added("dc=z", "dc:z", "objectClass:domain"), "32")
	w.wants("beside it", "-", added("ou=b,dc=z", unit...), "32")
	w.wants("beneath it, ahead of it", "-", added("ou=a,ou=a,dc=z", unit...), "32")
	w.does("it", "-", added("OU=A,dc=z", unit...), "0, do, added OU=A,dc=z [changedAt:7 createdAt:7 objectClass:organizationalUnit ou:a]")
	w.wants("beside it, behind it", "-", added("ou=b,dc=z", unit...), "32")
	w.does("beneath it", "-", added("ou=a,ou=a,dc=z", unit...), "0, do, added ou=a,ou=a,dc=z [changedAt:7 createdAt:7 objectClass:organizationalUnit ou:a]")
}

// P25.2: a right to write the entry itself, each of its attributes, and its parent itself; of the suffix's own no parent.
func TestAddRights(t *testing.T) {
	see := api.Rule{Rights: api.See, Allow: true}
	unit := added("ou=n,ou=x,dc=z", "ou:n", "objectClass:organizationalUnit", "description:d")
	yes := "0, do, added ou=n,ou=x,dc=z [changedAt:7 createdAt:7 description:d objectClass:organizationalUnit ou:n]"
	for i, c := range []struct {
		rules []api.Rule
		want  string
	}{
		{[]api.Rule{see}, "50"},
		{[]api.Rule{see, allow("", "")}, yes},
		{[]api.Rule{see, allow("ou=x,dc=z", "")}, yes},
		{[]api.Rule{see, allow("ou=n,ou=x,dc=z", "")}, "50"},
		{[]api.Rule{see, deny("ou=n,ou=x,dc=z", ""), allow("", "")}, "50"},
		{[]api.Rule{see, deny("", "description"), allow("", "")}, "50"},
		{[]api.Rule{see, deny("", "objectclass"), allow("", "")}, "50"},
		{[]api.Rule{see, deny("", "sn"), allow("", "")}, yes},
		{[]api.Rule{see, deny("", "createdAt"), deny("", "changedAt"), allow("", "")}, yes},
		{[]api.Rule{see, allow("ou=n,ou=x,dc=z", ""), allow("ou=x,dc=z", "ou")}, "50"},
		{[]api.Rule{see, allow("ou=n,ou=x,dc=z", "ou"), allow("ou=n,ou=x,dc=z", "description"), allow("ou=n,ou=x,dc=z", "objectClass"), allow("ou=x,dc=z", "")}, yes},
		// Who doesn't see the parent finds none
		{[]api.Rule{allow("", "")}, "32"},
		{[]api.Rule{{Where: "ou=x,dc=z", Rights: api.See}, see, allow("", "")}, "32, near DC=z"},
		{[]api.Rule{{Where: "ou=n,ou=x,dc=z", Rights: api.See}, see, allow("", "")}, yes},
	} {
		w := sample(t, c.rules...)
		w.wants(fmt.Sprint("rules ", i), "cn=who", unit, c.want)
		w.wants(fmt.Sprint("rules ", i, ", who may all"), root, unit, yes)
	}
	suffix := added("dc=z", "dc:z", "objectClass:domain")
	w := empty(t, schema.Core(), allow("", ""))
	w.wants("the suffix's own, unseen", "-", suffix, "0, do, added dc=z [changedAt:7 createdAt:7 dc:z objectClass:domain]")
	w = empty(t, schema.Core(), see)
	w.wants("the suffix's own, without a right", "-", suffix, "50")
	w = empty(t, schema.Core(), deny("", "dc"), all())
	w.wants("the suffix's own, without a right to one", "-", suffix, "50")
	w = sample(t)
	w.wants("an attribute without a name", "-", added("ou=n,dc=z", "ou:n", ":v"), "17")
}

// P25.2: no operational attribute is added by somebody, be it the one who may all.
func TestAddOper(t *testing.T) {
	w := sample(t)
	for _, a := range []string{"createdAt:7", "CHANGEDAT:7", "pwdFailure:1.0", "pwdLocked:1", "pwdchanged:7", "pwdLocked"} {
		w.wants(a, root, added("ou=n,dc=z", "ou:n", "objectClass:organizationalUnit", a), "19")
		w.wants(a+" beside no type", root, added("ou=n,dc=z", "none:n", a), "19")
	}
}

// P25.2: passwords are salted, one behind the other, in whatever attributes; those that are stored ones stay.
func TestAddSalted(t *testing.T) {
	person := func(list ...string) api.Msg {
		return added("cn=n,dc=z", append([]string{"cn:n", "sn:n", "objectClass:person"}, list...)...)
	}
	const front = "0, do, added cn=n,dc=z [changedAt:7 cn:n createdAt:7 objectClass:person pwdChanged:7 sn:n userPassword:"
	w := sample(t)
	w.wants("one", root, person("userPassword:p"), front+"<p@5>], salts 1")
	w.wants("three", root, person("userPassword:p|q|p"), front+"<p@5>|<q@6>|<p@7>], salts 3")
	w.wants("a stored one", root, person("userPassword:<p@77>"), front+"<p@77>]")
	w.wants("a stored one between", root, person("userPassword:p|<r@1>|q"), front+"<r@1>|<p@5>|<q@6>], salts 2")
	w.wants("in several attributes", root, person("USERPASSWORD:p", "userpassword:<r@9>|q", "description:p"), "0, do, added cn=n,dc=z [changedAt:7 cn:n createdAt:7 description:p objectClass:person pwdChanged:7 sn:n userPassword:<p@5>|<q@6>|<r@9>], salts 2")
	w.wants("what is nearly a stored one", root, person("userPassword:"+kept("p", 9)[:87]), strings.Split(front, "userPassword")[0]+"userPassword:"+kept(kept("p", 9)[:87], 5)+"], salts 1")
	w.salt = math.MaxUint64
	w.wants("salts go round", root, person("userPassword:p|q|r"), front+"<q@0>|<r@1>|<p@18446744073709551615>], salts 3")
	w.salt = 0
	w.wants("salts from 0 on", root, person("userPassword:p"), front+"<p@0>], salts 1")
	for _, c := range []struct{ values, want string }{
		{"", "19"}, {"p|", "19"}, {"|p", "19"}, {strings.Repeat("p", 257), "19"}, {"p|" + strings.Repeat("p", 257), "19"},
		{"<p@0>", front + "<p@0>]"}, {"<p@0>|<p@0>", "20"}, {"p|<p@0>", "20"},
	} {
		w.wants("values "+c.values, root, person("userPassword:"+c.values), c.want)
	}
	long := strings.Repeat("p", 256)
	w.wants("as long as may be", root, person("userPassword:"+long), front+kept(long, 0)+"], salts 1")
	w.wants("without values", root, person("userPassword"), "19")
	w.wants("a password of an entry that doesn't fit", root, added("ou=n,dc=z", "ou:n", "objectClass:organizationalUnit", "userPassword:p"), "65")
	w.wants("no salts beside another code", root, person("userPassword:p", "mail:m"), "65")
	w.wants("an empty value of another attribute", root, person("description:"), "21")
}

// P25.2: an entry is stamped with what the schema has types for.
func TestAddStamps(t *testing.T) {
	person := added("cn=n,dc=z", "cn:n", "sn:n", "objectClass:person", "userPassword:p")
	for _, c := range []struct {
		gone string
		want string
	}{
		{"createdAt", "changedAt:7 cn:n objectClass:person pwdChanged:7 sn:n"},
		{"changedAt", "cn:n createdAt:7 objectClass:person pwdChanged:7 sn:n"},
		{"pwdChanged", "changedAt:7 cn:n createdAt:7 objectClass:person sn:n"},
		{"pwdFailure pwdLocked", "changedAt:7 cn:n createdAt:7 objectClass:person pwdChanged:7 sn:n"},
		{"createdAt changedAt pwdFailure pwdLocked pwdChanged", "cn:n objectClass:person sn:n"},
	} {
		w := empty(t, changes(without(strings.Fields(c.gone)...)), all()).put("dc=z; objectClass:domain; dc:z")
		w.does("without "+c.gone, "-", person, "0, do, added cn=n,dc=z ["+c.want+" userPassword:<p@5>], salts 1")
	}
	w := empty(t, changes(func(s *api.Schema) { s.Classes[0].May = []string{"createdAt", "pwdChanged"} }), all()).put("dc=z; objectClass:domain; dc:z")
	w.wants("where classes don't want a stamp", "-", person, "65")
	spelt := changes(typed("createdAt", func(x *api.Type) { x.Name = "CREATEDat" }), typed("pwdChanged", func(x *api.Type) { x.Name = "pwdCHANGED" }))
	w = empty(t, spelt, all()).put("dc=z; objectClass:domain; dc:z")
	w.does("types that are spelt otherwise", "-", person, "0, do, added cn=n,dc=z [changedAt:7 cn:n CREATEDat:7 objectClass:person pwdCHANGED:7 sn:n userPassword:<p@5>], salts 1")
	// Where they aren't Oper somebody may tell them; the stamp takes their place.
	told := changes(typed("createdAt", func(x *api.Type) { x.Oper = false }), typed("pwdFailure", func(x *api.Type) { x.Oper = false }))
	w = empty(t, told, all()).put("dc=z; objectClass:domain; dc:z")
	w.does("what was told", "-", added("cn=n,dc=z", "cn:n", "sn:n", "objectClass:person", "createdAt:99", "pwdFailure:1.0", "userPassword:p"), "0, do, added cn=n,dc=z [changedAt:7 cn:n createdAt:7 objectClass:person pwdChanged:7 sn:n userPassword:<p@5>], salts 1")
	w.does("what was told, without a password", "-", added("cn=m,dc=z", "cn:m", "sn:n", "objectClass:person", "createdAt:99", "pwdFailure:1.0"), "0, do, added cn=m,dc=z [changedAt:7 cn:m createdAt:7 objectClass:person pwdFailure:1.0 sn:n]")
}

// P25.2: as many entries as may be, and no more.
func TestAddMany(t *testing.T) {
	w := sample(t)
	list, _ := entry.Make(w.Schema, lines("objectClass:organizationalUnit", "ou:n")...)
	for i := w.View.Len(); i < api.MaxEntries-1; i++ {
		w.tree.Do(api.Update{Kind: api.Added, DN: name(fmt.Sprint("ou=n", i, ",ou=y,dc=z")), Attrs: list})
	}
	m := added("ou=n,dc=z", "ou:n", "objectClass:organizationalUnit")
	w.does("the last one", "-", m, "0, do, added ou=n,dc=z [changedAt:7 createdAt:7 objectClass:organizationalUnit ou:n]")
	w.wants("again", "-", m, "68")
	m.DN = "ou=N,ou=x,dc=z"
	w.wants("one more", "-", m, "80")
}
