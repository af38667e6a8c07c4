package oper_test

import (
	"fmt"
	"strings"
	"testing"

	"castellan/api"
)

// P25.4: entries that get other names; what of the old first RDN stays.
func TestMove(t *testing.T) {
	const front, behind = "0, do, moved cn=A,OU=x,dc=z to ", " createdAt:1 objectClass:person pwdChanged:2 sn:n userPassword:<p@9>]"
	for _, c := range []struct {
		what string
		m    api.Msg
		want string
	}{
		{"the old value goes", moved("CN=a,ou=x,dc=z", "cn=C", true), front + "cn=C,ou=X,dc=Z [changedAt:7 cn:C|other" + behind},
		{"the old value stays", moved("cn=a,ou=x,dc=z", "cn=C", false), front + "cn=C,ou=X,dc=Z [changedAt:7 cn:A|C|other" + behind},
		{"one that is there", moved("cn=a,ou=x,dc=z", "CN=OTHER", true), front + "CN=OTHER,ou=X,dc=Z [changedAt:7 cn:other" + behind},
		{"another spelling", moved("cn=a,ou=x,dc=z", "CN=a", true), front + "CN=a,ou=X,dc=Z [changedAt:7 cn:A|other" + behind},
		{"the same", moved("cn=a,ou=x,dc=z", "cn=A", true), front + "cn=A,ou=X,dc=Z [changedAt:7 cn:A|other" + behind},
		{"another parent", moved("cn=a,ou=x,dc=z", "cn=A", true, "OU=y,DC=z"), front + "cn=A,ou=y,dc=z [changedAt:7 cn:A|other" + behind},
		{"the same parent", moved("cn=a,ou=x,dc=z", "cn=c", false, "ou=x,dc=z"), front + "cn=c,ou=X,dc=Z [changedAt:7 cn:A|c|other" + behind},
		{"the suffix as a parent", moved("cn=a,ou=x,dc=z", "cn=c", true, "dc=z"), front + "cn=c,DC=z [changedAt:7 cn:c|other" + behind},
		{"a brother as a parent", moved("cn=a,ou=x,dc=z", "cn=b", true, "cn=B,ou=x,dc=z"), front + "cn=b,cn=b,ou=x,dc=z [changedAt:7 cn:b|other" + behind},
		{"two types", moved("cn=a,ou=x,dc=z", "sn=m+cn=a", true), front + "sn=m+cn=a,ou=X,dc=Z [changedAt:7 cn:A|other createdAt:1 objectClass:person pwdChanged:2 sn:m|n userPassword:<p@9>]"},
		{"another type", moved("cn=a,ou=x,dc=z", "sn=N", true), front + "sn=N,ou=X,dc=Z [changedAt:7 cn:other" + behind},
		{"a value of another type", moved("cn=a,ou=x,dc=z", "description=d", false), front + "description=d,ou=X,dc=Z [changedAt:7 cn:A|other createdAt:1 description:d objectClass:person pwdChanged:2 sn:n userPassword:<p@9>]"},
		// A password that comes this way is no stored one, and proves nothing
		{"a password", moved("cn=a,ou=x,dc=z", "userPassword=q", true), front + "userPassword=q,ou=X,dc=Z [changedAt:7 cn:other createdAt:1 objectClass:person pwdChanged:2 sn:n userPassword:q|<p@9>]"},
		{"a brother's name", moved("cn=a,ou=x,dc=z", "cn=B", true), "68"},
		{"no RDN", moved("cn=a,ou=x,dc=z", "", true), "34"},
		{"two RDNs", moved("cn=a,ou=x,dc=z", "cn=c,ou=y", true), "34"},
		{"no value", moved("cn=a,ou=x,dc=z", "cn", true), "34"},
		{"a type twice", moved("cn=a,ou=x,dc=z", "cn=c+CN=d", true), "34"},
		{"an empty parent", moved("cn=a,ou=x,dc=z", "cn=c", true, ""), "32"},
		{"no parent", moved("cn=a,ou=x,dc=z", "cn=c", true, "ou=none,dc=z"), "32, near DC=z"},
		{"another suffix", moved("cn=a,ou=x,dc=z", "cn=c", true, "dc=y"), "32"},
		{"a parent that is no name", moved("cn=a,ou=x,dc=z", "cn=c", true, "ou=x,"), "34"},
		{"beneath itself", moved("cn=a,ou=x,dc=z", "cn=c", true, "cn=A,ou=x,dc=z"), "53"},
		{"the suffix", moved("dc=z", "dc=y", true), "53"},
		{"the suffix, beneath another one", moved("dc=z", "dc=y", true, "ou=x,dc=z"), "53"},
		{"the suffix, beneath none", moved("dc=z", "dc=y", true, "ou=none,dc=z"), "53"},
		{"the suffix, beneath no name", moved("dc=z", "dc=y", true, "none"), "34"},
		{"without RDNs", moved("", "cn=c", true), "32"},
		{"no type", moved("cn=a,ou=x,dc=z", "none=c", true), "17"},
		{"no value of the type", moved("cn=a,ou=x,dc=z", "active=c", true), "21"},
		{"not of the class", moved("cn=a,ou=x,dc=z", "uid=c", true), "65"},
		{"what must stay goes", moved("cn=b,ou=x,dc=z", "sn=n", true), "65"},
		{"an operational type", moved("cn=a,ou=x,dc=z", "createdAt=1", true), "19"},
		{"an operational type beside another one", moved("cn=a,ou=x,dc=z", "cn=a+PWDLOCKED=1", false), "19"},
	} {
		sample(t).does(c.what, "-", c.m, c.want)
	}
	m := moved("cn=a,ou=x,dc=z", "cn=C", true)
	m.Sup = "ou=y,dc=z"
	sample(t).wants("a Sup that isn't told", "-", m, front+"cn=C,ou=X,dc=Z [changedAt:7 cn:C|other"+behind)
}

// P25.4: what lies under an entry comes along, as long as it can be named.
func TestMoveTrees(t *testing.T) {
	w := sample(t)
	w.does("a tree", "-", moved("ou=x,dc=z", "ou=w", true, "ou=y,dc=z"), "0, do, moved ou=X,dc=Z to ou=w,ou=y,dc=z [changedAt:7 createdAt:1 objectClass:organizationalUnit ou:w]")
	w.wants("what was beneath it", "-", deleted("cn=a,ou=w,ou=y,dc=z"), "0, do, deleted cn=A,ou=w,ou=y,dc=z")
	w.wants("one above it, beneath it", "-", moved("ou=y,dc=z", "ou=y", true, "ou=w,ou=y,dc=z"), "53")
	long := strings.Repeat("l", 1300)
	w.put("ou="+long+",dc=z; objectClass:organizationalUnit; ou:"+long, "ou="+long+",ou="+long+",dc=z; objectClass:organizationalUnit; ou:"+long)
	far := "ou=" + long + ",ou=" + long + ",dc=z"
	// With a value of so many bytes the name has 2616 more; those beneath it have 5 more than that.
	for count, want := range map[int]string{1: "0", 1475: "0", 1476: "34", 1480: "34", 1481: "34", 1500: "34"} {
		got := told(w.ask("-", moved("ou=w,ou=y,dc=z", "ou="+strings.Repeat("m", count), false, far)))
		is(t, fmt.Sprint(count, " bytes"), strings.Split(got, ",")[0], want)
	}
	w.does("beneath long ones", "-", moved("ou=w,ou=y,dc=z", "ou=m", true, far), "0, do, moved ou=w,ou=y,dc=z to ou=m,"+far+" [changedAt:7 createdAt:1 objectClass:organizationalUnit ou:m]")
}

// P25.4: a right to write the entry itself and the new parent itself; who doesn't see one of them finds none.
func TestMoveRights(t *testing.T) {
	see := api.Rule{Rights: api.See, Allow: true}
	hide := func(where string) api.Rule { return api.Rule{Where: where, Rights: api.See} }
	stay, away := moved("cn=a,ou=x,dc=z", "cn=c", true), moved("cn=a,ou=x,dc=z", "cn=c", true, "ou=y,dc=z")
	a, x, y := allow("cn=a,ou=x,dc=z", ""), allow("ou=x,dc=z", ""), allow("ou=y,dc=z", "")
	for i, c := range []struct {
		rules      []api.Rule
		stay, away string
	}{
		{[]api.Rule{see}, "50", "50"},
		{[]api.Rule{see, a}, "50", "50"},
		{[]api.Rule{see, x}, "0", "50"},
		{[]api.Rule{see, y}, "50", "50"},
		{[]api.Rule{see, a, y}, "50", "0"},
		{[]api.Rule{see, deny("cn=a,ou=x,dc=z", ""), allow("", "")}, "50", "50"},
		{[]api.Rule{see, deny("ou=x,dc=z", ""), allow("", "")}, "50", "50"},
		{[]api.Rule{see, a, deny("ou=x,dc=z", ""), y}, "50", "0"},
		{[]api.Rule{see, deny("", "cn"), deny("", "changedAt"), allow("", "")}, "0", "0"},
		{[]api.Rule{see, allow("", "cn")}, "50", "50"},
		{[]api.Rule{allow("", "")}, "32", "32"},
		{[]api.Rule{hide("cn=a,ou=x,dc=z"), all()}, "32, near ou=X,dc=Z", "32, near ou=X,dc=Z"},
		{[]api.Rule{{Where: "cn=a,ou=x,dc=z", Rights: api.See, Allow: true}, hide("ou=x,dc=z"), all()}, "32, near DC=z", "0"},
		{[]api.Rule{hide("ou=y,dc=z"), all()}, "0", "32, near DC=z"},
		{[]api.Rule{hide("cn=c,ou=x,dc=z"), hide("cn=c,ou=y,dc=z"), deny("cn=c,ou=x,dc=z", ""), all()}, "0", "0"},
	} {
		w := sample(t, c.rules...)
		for _, one := range []struct {
			m    api.Msg
			want string
		}{{stay, c.stay}, {away, c.away}} {
			got := told(w.ask("cn=who", one.m))
			if one.want == "0" {
				is(t, fmt.Sprint("rules ", i), strings.HasPrefix(got, "0, do, moved "), true)
			} else {
				is(t, fmt.Sprint("rules ", i), got, one.want)
			}
			is(t, fmt.Sprint("rules ", i, ", who may all"), strings.HasPrefix(told(w.ask(root, one.m)), "0, do, moved "), true)
		}
	}
}

// P25.4: an old first RDN whose value isn't there, or of a type that isn't there, hinders nothing; a stamp for which there
// is no type, neither.
func TestMoveOld(t *testing.T) {
	w := sample(t).put("ou=v,dc=z; objectClass:organizationalUnit; ou:u", "none=v+ou=u,dc=z; objectClass:organizationalUnit; ou:u|t")
	w.does("another value", "-", moved("ou=v,dc=z", "ou=U", true), "0, do, moved ou=v,dc=z to ou=U,DC=z [changedAt:7 objectClass:organizationalUnit ou:u]")
	w.does("another type", "-", moved("ou=u+none=v,dc=z", "ou=s", true), "0, do, moved none=v+ou=u,dc=z to ou=s,DC=z [changedAt:7 objectClass:organizationalUnit ou:s|t]")
	w = empty(t, changes(without("changedAt")), all()).put("dc=z; objectClass:domain; dc:z", "ou=v,dc=z; objectClass:organizationalUnit; ou:v")
	w.does("no stamp", "-", moved("ou=v,dc=z", "ou=u", true), "0, do, moved ou=v,dc=z to ou=u,dc=z [objectClass:organizationalUnit ou:u]")
}
