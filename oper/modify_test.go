package oper_test

import (
	"fmt"
	"math"
	"strings"
	"testing"

	"castellan/api"
	"castellan/schema"
)

// What of the entry cn=A a change leaves as it is, ahead of sn and behind it, and when it is changed at 7.
const (
	changedA = "0, do, changed cn=A,OU=x,dc=z ["
	ownA     = "changedAt:7 cn:A|other createdAt:1 "
)

// P25.3: modifications, one behind the other, and the time of the change.
func TestModify(t *testing.T) {
	w := sample(t)
	const behind = "objectClass:person pwdChanged:2 sn:n userPassword:<p@9>]"
	w.does("one is added", "-", modified("CN=a,ou=X,dc=z", "+DESCRIPTION:d"), changedA+ownA+"description:d "+behind)
	w.now = 8
	w.does("none", "-", modified("cn=a,ou=x,dc=z"), changedA+"changedAt:8 cn:A|other createdAt:1 description:d "+behind)
	w.now = 6
	w.does("at a time ahead of that", "-", modified("cn=a,ou=x,dc=z", "-description"), changedA+"changedAt:6 cn:A|other createdAt:1 "+behind)
	w.now = 9
	w.does("several", "-", modified("cn=a,ou=x,dc=z", "+cn:c|b", "-CN:OTHER|C", "=sn:M", "+sn:n", "-sn:m"), changedA+"changedAt:9 cn:A|b createdAt:1 "+behind)
	w.does("a class that isn't structural", "-", modified("cn=a,ou=x,dc=z", "+objectClass:labelled|top", "+mail:m"), changedA+"changedAt:9 cn:A|b createdAt:1 mail:m objectClass:labelled|person|top pwdChanged:2 sn:n userPassword:<p@9>]")
	for _, c := range []struct{ mod, want string }{
		{"?cn:b", "2"}, {"+cn", "2"}, {"+none:b", "17"}, {"=none", "17"}, {"-none", "17"}, {"+active:true", "21"}, {"+cn:B", "20"}, {"=cn:A|a", "20"}, {"-description", "16"}, {"-sn:m", "16"}, {"+employeeNumber:1|2", "19"},
		{"-sn", "65"}, {"=objectClass", "69"}, {"-objectClass:person", "69"}, {"=objectClass:none", "69"}, {"+objectClass:inetPerson", "69"}, {"+objectClass:domain", "69"}, {"-mail", "0"}, {"-objectClass:labelled", "65"}, {"+uid:u", "0"}, {"+employeeNumber:1", "65"},
		{"-cn", "65"}, {"-cn:a", "67"}, {"=cn:b", "67"}, {"=cn:a", "0"}, {"=cn: A ", "0"}, {"+objectClass:secured", "0"}, {"+description:", "21"},
	} {
		got := told(w.ask("-", modified("cn=a,ou=x,dc=z", c.mod)))
		is(t, c.mod, strings.Split(got, ",")[0], c.want)
		is(t, c.mod+": is there more", got != c.want, c.want == "0")
	}
	w.wants("again by another spelling", "-", modified("cn=a,ou=x,dc=z", "+cn:c", "+CN:C"), "20")
	w.wants("none of that name", "-", modified("cn=c,ou=x,dc=z", "+cn:c"), "32, near ou=X,dc=Z")
	w.wants("without RDNs", "-", modified("", "+cn:c"), "32")
	w.wants("another suffix", "-", modified("dc=y", "+dc:y"), "32")
	w.does("the suffix's own", "-", modified("dc=Z", "+description:d"), "0, do, changed DC=z [changedAt:9 createdAt:1 dc:z description:d objectClass:domain]")
}

// P25.3: of several types in the first RDN each value must stay; other RDNs play no part.
func TestModifyName(t *testing.T) {
	w := sample(t).put("cn=C+sn=N,ou=x,dc=z; objectClass:person; cn:c|d; sn:n|ou")
	for _, c := range []struct{ mod, want string }{
		{"-cn:c", "67"}, {"-sn:n", "67"}, {"-cn:d", "0"}, {"-sn:ou", "0"}, {"=sn:N ", "0"}, {"=sn:m", "67"}, {"-sn", "65"},
	} {
		got := told(w.ask("-", modified("SN=n+cn=c,ou=x,dc=z", c.mod)))
		is(t, c.mod, strings.Split(got, ",")[0], c.want)
	}
	// An entry whose name never fitted
	w.put("ou=v,dc=z; objectClass:organizationalUnit; ou:u", "none=v,dc=z; objectClass:organizationalUnit; ou:u", "active=v,dc=z; objectClass:organizationalUnit; ou:u")
	w.wants("a value that isn't there", "-", modified("ou=v,dc=z"), "67")
	w.wants("a type that isn't there", "-", modified("none=v,dc=z"), "17")
	w.wants("a value that is none", "-", modified("active=v,dc=z"), "21")
	w.does("the value comes", "-", modified("ou=v,dc=z", "=ou:V"), "0, do, changed ou=v,dc=z [changedAt:7 objectClass:organizationalUnit ou:V]")
}

// P25.3: a right to write the entry itself and each attribute that a modification is of, by the entry's own name.
func TestModifyRights(t *testing.T) {
	see := api.Rule{Rights: api.See, Allow: true}
	self := func(attr string) api.Rule {
		return api.Rule{Who: api.Self, Attr: attr, Rights: api.Write, Allow: true}
	}
	own := "cn=a,ou=X,dc=z"
	for i, c := range []struct {
		rules []api.Rule
		who   string
		want  string
	}{
		{[]api.Rule{see}, "-", "50"},
		{[]api.Rule{see, allow("", "")}, "-", "0"},
		{[]api.Rule{see, allow("cn=A,ou=x,dc=z", "")}, "-", "0"},
		{[]api.Rule{see, allow("ou=y,dc=z", "")}, "-", "50"},
		{[]api.Rule{see, deny("", "sn"), allow("", "")}, "-", "50"},
		{[]api.Rule{see, deny("", "DESCRIPTION"), allow("", "")}, "-", "50"},
		{[]api.Rule{see, deny("", "changedAt"), deny("", "cn"), allow("", "")}, "-", "0"},
		{[]api.Rule{see, allow("", "sn"), allow("", "description")}, "-", "50"},
		{[]api.Rule{see, self("")}, own, "0"},
		{[]api.Rule{see, self("")}, "cn=b,ou=x,dc=z", "50"},
		{[]api.Rule{see, self("sn"), self("description")}, own, "50"},
		{[]api.Rule{{Rights: api.See | api.Read | api.Compare, Allow: true}}, "-", "50"},
		{[]api.Rule{allow("", "")}, "-", "32"},
		{[]api.Rule{{Where: "cn=a,ou=x,dc=z", Rights: api.See}, see, allow("", "")}, "-", "32, near ou=X,dc=Z"},
		{nil, root, "0"},
	} {
		w := sample(t, append(c.rules, api.Rule{Where: "dc=y", Rights: 1})...)
		want := c.want
		if want == "0" {
			want = changedA + ownA + "description:d objectClass:person pwdChanged:2 sn:m userPassword:<p@9>]"
		}
		w.wants(fmt.Sprint("rules ", i), c.who, modified("CN=A,ou=x,dc=z", "=SN:m", "+description:d"), want)
	}
	w := sample(t, see)
	w.wants("no right, and no modifications", "-", modified("cn=a,ou=x,dc=z"), "50")
	w.wants("no right to an operational one", "-", modified("cn=a,ou=x,dc=z", "-createdAt"), "50")
	w.wants("no right, and no type", "-", modified("cn=a,ou=x,dc=z", "-none"), "50")
}

// P25.3: no operational attribute is modified by somebody, be it the one who may all.
func TestModifyOper(t *testing.T) {
	w := sample(t)
	for _, mod := range []string{"-createdAt", "+CHANGEDAT:7", "=pwdFailure", "?pwdLocked:1", "=pwdchanged:7", "-pwdLocked"} {
		w.wants(mod, root, modified("cn=a,ou=x,dc=z", mod), "19")
		w.wants(mod+" beside no type", root, modified("cn=a,ou=x,dc=z", "+none:a", mod), "19")
	}
}

// P25.3: passwords that come are salted; those that go are told as they are kept. Either way they count as new.
func TestModifyPassword(t *testing.T) {
	locked := func() *world {
		return sample(t).put("cn=c,dc=z; objectClass:person; cn:c; sn:n; userPassword:<p@9>|<q@10>; pwdChanged:2; pwdLocked:3; pwdFailure:1.0|1.1")
	}
	const front, fresh = "0, do, changed cn=c,dc=z [changedAt:7 cn:c objectClass:person pwdChanged:7 sn:n", "pwdChanged:7"
	for _, c := range []struct{ mods, want string }{
		{"+userPassword:r", front + " userPassword:<r@5>|<p@9>|<q@10>], salts 1"},
		{"+USERPASSWORD:p|q", front + " userPassword:<p@5>|<q@6>|<p@9>|<q@10>], salts 2"},
		{"=userpassword:r|<s@7>|new", front + " userPassword:<r@5>|<new@6>|<s@7>], salts 2"},
		{"=userPassword:<r@1>", front + " userPassword:<r@1>]"},
		{"=userPassword", front + "]"},
		{"-userPassword", front + "]"},
		{"-userPassword:<p@9>", front + " userPassword:<q@10>]"},
		{"-USERpassword:<q@10>|<p@9>", front + "]"},
		{"-userPassword:p", "16"},
		{"-userPassword:", "16"},
		{"-userPassword:<p@10>", "16"},
		{"+userPassword:<p@9>", "20"},
		{"=userPassword:<p@5>|p", "20"},
		{"+userPassword:", "19"},
		{"=userPassword:p|", "19"},
		{"+userPassword:" + strings.Repeat("p", 257), "19"},
		{"+userPassword", "2"},
		{"?userPassword:p", "2"},
		{"?userPassword:", "19"},
		{"+userPassword:r -userPassword:<r@5>", front + " userPassword:<p@9>|<q@10>], salts 1"},
		{"+userPassword:r +userPassword:new -userPassword:<r@5>|<p@9>", front + " userPassword:<new@6>|<q@10>], salts 2"},
		{"=userPassword:r -userPassword:r", "16"},
		{"+userPassword:r +userPassword:<r@5>", "20"},
		{"+description:r", "0, do, changed cn=c,dc=z [changedAt:7 cn:c description:r objectClass:person pwdChanged:2 pwdFailure:1.0|1.1 pwdLocked:3 sn:n userPassword:<p@9>|<q@10>]"},
		{"-userPassword +mail:m", "65"},
	} {
		locked().does(c.mods, "-", modified("cn=c,dc=z", strings.Fields(c.mods)...), c.want)
	}
	w := locked()
	w.salt = math.MaxUint64 - 1
	w.wants("salts go round", "-", modified("cn=c,dc=z", "=userPassword:p|q|r"), front+" userPassword:<r@0>|<p@18446744073709551614>|<q@18446744073709551615>], salts 3")
	w.wants("a password of one that has none", "-", modified("cn=b,ou=x,dc=z", "+userPassword:p"), "0, do, changed cn=b,ou=x,dc=z [changedAt:7 cn:b createdAt:1 objectClass:person "+fresh+" sn:n userPassword:<p@18446744073709551614>], salts 1")
	w.wants("a password of one that wants none", "-", modified("ou=x,dc=z", "+userPassword:p"), "65")
}

// P25.3: a change is stamped with what the schema has types for.
func TestModifyStamps(t *testing.T) {
	for _, c := range []struct{ gone, want string }{
		{"changedAt", "cn:c createdAt:1 objectClass:person pwdChanged:7 sn:n"},
		{"pwdChanged", "changedAt:7 cn:c createdAt:1 objectClass:person sn:n"},
		{"pwdLocked pwdFailure", "changedAt:7 cn:c createdAt:1 objectClass:person pwdChanged:7 sn:n"},
		{"changedAt pwdFailure pwdLocked pwdChanged", "cn:c createdAt:1 objectClass:person sn:n"},
	} {
		w := empty(t, changes(without(strings.Fields(c.gone)...)), all()).put("dc=z; objectClass:domain; dc:z", "cn=c,dc=z; objectClass:person; cn:c; sn:n; createdAt:1")
		w.does("without "+c.gone, "-", modified("cn=c,dc=z", "+userPassword:p"), "0, do, changed cn=c,dc=z ["+c.want+" userPassword:<p@5>], salts 1")
	}
	// A stamp that the entry's class doesn't want
	s := changes(func(s *api.Schema) { s.Classes[0].May = []string{"changedAt"} })
	w := empty(t, s, all()).put("dc=z; objectClass:domain; dc:z", "cn=c,dc=z; objectClass:person; cn:c; sn:n")
	w.wants("a change", "-", modified("cn=c,dc=z", "+description:p"), "0, do, changed cn=c,dc=z [changedAt:7 cn:c description:p objectClass:person sn:n]")
	w.wants("a password", "-", modified("cn=c,dc=z", "+userPassword:p"), "65")
	w.wants("a password that goes", "-", modified("cn=c,dc=z", "=userPassword"), "65")
}

// P25.4: entries that are deleted, and a right to that.
func TestDelete(t *testing.T) {
	see := api.Rule{Rights: api.See, Allow: true}
	w := sample(t)
	w.wants("one with some beneath", "-", deleted("OU=x,dc=z"), "66")
	w.wants("the suffix's own", "-", deleted("dc=z"), "66")
	w.does("a leaf", "-", deleted("cn=a,ou=x,dc=z"), "0, do, deleted cn=A,OU=x,dc=z")
	w.wants("again", "-", deleted("cn=a,ou=x,dc=z"), "32, near ou=X,dc=Z")
	w.does("another", "-", deleted("cn=b,ou=x,dc=z"), "0, do, deleted cn=b,ou=x,dc=z")
	w.does("one that had some", "-", deleted("OU=x,dc=z"), "0, do, deleted ou=X,dc=Z")
	w.does("the last but one", "-", deleted("ou=y,dc=z"), "0, do, deleted ou=y,dc=z")
	w.does("the last", "-", deleted("dc=Z"), "0, do, deleted DC=z")
	w.wants("of none", "-", deleted("dc=z"), "32")
	w.wants("without RDNs", "-", deleted(""), "32")
	for i, c := range []struct {
		rules []api.Rule
		want  string
	}{
		{[]api.Rule{see}, "50"},
		{[]api.Rule{see, allow("cn=a,ou=x,dc=z", "")}, "0, do, deleted cn=A,OU=x,dc=z"},
		{[]api.Rule{see, deny("", "cn"), allow("", "")}, "0, do, deleted cn=A,OU=x,dc=z"},
		{[]api.Rule{see, deny("cn=a,ou=x,dc=z", ""), allow("", "")}, "50"},
		{[]api.Rule{see, allow("cn=a,ou=x,dc=z", "cn")}, "50"},
		{[]api.Rule{allow("", "")}, "32"},
	} {
		w := sample(t, c.rules...)
		w.wants(fmt.Sprint("rules ", i), "-", deleted("cn=a,ou=x,dc=z"), c.want)
	}
	w = sample(t, see)
	w.wants("no right, and some beneath", "-", deleted("ou=x,dc=z"), "50")
	is(t, "the schema", schema.Check(w.Schema), api.OK)
}
