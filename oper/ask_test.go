package oper_test

import (
	"fmt"
	"strings"
	"testing"

	"castellan/api"
	"castellan/oper"
	"castellan/schema"
)

// P25.5: values held against an entry's, by the syntaxes of their types.
func TestCompare(t *testing.T) {
	w := sample(t).put("cn=c,dc=z; objectClass:inetPerson; cn:c|D; sn:n; userPassword:<p@9>|<q@10>; employeeNumber:10; active:TRUE; uid:a  b; pwdFailure:1.0", "cn=g,dc=z; objectClass:group; cn:g; member:cn=A|cn=b,dc=z")
	for _, c := range []struct{ d, attr, value, want string }{
		{"CN=C,dc=z", "cn", "C", "6"},
		{"cn=c,dc=z", "CN", " d ", "6"},
		{"cn=c,dc=z", "cn", "e", "5"},
		{"cn=c,dc=z", "cn", "", "21"},
		{"cn=c,dc=z", "cn", "\xff", "21"},
		{"cn=c,dc=z", "uid", "A b", "6"},
		{"cn=c,dc=z", "uid", "ab", "5"},
		{"cn=c,dc=z", "uid", "", "5"},
		{"cn=c,dc=z", "EmployeeNumber", "10", "6"},
		{"cn=c,dc=z", "employeeNumber", "9", "5"},
		{"cn=c,dc=z", "employeeNumber", "010", "21"},
		{"cn=c,dc=z", "active", "TRUE", "6"},
		{"cn=c,dc=z", "active", "true", "21"},
		{"cn=c,dc=z", "objectclass", "INETPERSON", "6"},
		{"cn=c,dc=z", "objectclass", "person", "5"},
		{"cn=c,dc=z", "pwdFailure", "1.0", "6"},
		{"cn=c,dc=z", "changedAt", "1", "16"},
		{"cn=c,dc=z", "mail", "", "16"},
		{"cn=c,dc=z", "employeeType", "1", "17"},
		{"cn=c,dc=z", "", "1", "17"},
		{"cn=c,dc=z", "c n", "1", "17"},
		{"cn=g,dc=z", "member", "CN=a", "6"},
		{"cn=g,dc=z", "member", "cn=b, dc=z", "21"},
		{"cn=g,dc=z", "member", "", "5"},
		{"cn=c,ou=none,dc=z", "cn", "c", "32, near DC=z"},
		{"", "cn", "c", "32"},
	} {
		w.wants(c.d+" "+c.attr+" "+c.value, "-", compared(c.d, c.attr, c.value), c.want)
	}
	s := changes(typed("cn", func(x *api.Type) { x.Syntax = api.Exact }))
	w = empty(t, s, all()).put("dc=z; objectClass:domain; dc:z", "cn=c,dc=z; objectClass:person; cn:A b; sn:n")
	w.wants("as it is", "-", compared("cn=c,dc=z", "cn", "A b"), "6")
	w.wants("folded", "-", compared("cn=c,dc=z", "cn", "a b"), "5")
}

// P25.5: a password is held against those that are kept, as it is tried by a bind.
func TestComparePassword(t *testing.T) {
	long := strings.Repeat("l", 256)
	w := sample(t).put("cn=c,dc=z; objectClass:person; cn:c; sn:n; userPassword:<p@9>|<q@10>|plain|" + kept(long, 3))
	for _, c := range []struct{ attr, value, want string }{
		{"userPassword", "p", "6"}, {"USERPASSWORD", "q", "6"}, {"userPassword", "P", "5"}, {"userPassword", "", "5"}, {"userPassword", "plain", "5"},
		{"userPassword", kept("p", 9), "5"}, {"userpassword", long, "6"}, {"userPassword", long + "l", "5"}, {"userPassword", long[1:], "5"},
	} {
		w.wants(c.attr+" "+c.value, "-", compared("cn=c,dc=z", c.attr, c.value), c.want)
	}
	w.wants("without one", "-", compared("cn=b,ou=x,dc=z", "userPassword", "p"), "16")
	w = empty(t, changes(typed("userPassword", func(x *api.Type) { x.Syntax = api.Number })), all()).put("dc=z; objectClass:domain; dc:z", "cn=c,dc=z; objectClass:person; cn:c; sn:n; userPassword:1")
	w.wants("of numbers", "-", compared("cn=c,dc=z", "userPassword", "1"), "5")
	w.wants("of numbers, of none", "-", compared("cn=c,dc=z", "userPassword", "x"), "5")
	w = empty(t, changes(without("userPassword")), all()).put("dc=z; objectClass:domain; dc:z")
	w.wants("without the type", "-", compared("dc=z", "userPassword", "1"), "17")
}

// P25.5: a right to Compare just this attribute, by the entry's own name; nothing else is told to who has none.
func TestCompareRights(t *testing.T) {
	see := api.Rule{Rights: api.See, Allow: true}
	may := func(attr string) api.Rule { return api.Rule{Attr: attr, Rights: api.Compare, Allow: true} }
	for i, c := range []struct {
		rules            []api.Rule
		there, none, not string
	}{
		{[]api.Rule{see}, "50", "50", "17"},
		{[]api.Rule{see, may("CN")}, "6", "50", "17"},
		{[]api.Rule{see, may("mail")}, "50", "16", "17"},
		{[]api.Rule{see, may("")}, "6", "16", "17"},
		{[]api.Rule{see, {Attr: "cn", Rights: api.Compare}, may("")}, "50", "16", "17"},
		{[]api.Rule{{Rights: api.See | api.Read | api.Write, Allow: true}}, "50", "50", "17"},
		{[]api.Rule{see, {Where: "ou=y,dc=z", Rights: api.Compare, Allow: true}}, "50", "50", "17"},
		{[]api.Rule{see, {Who: api.Self, Rights: api.Compare, Allow: true}}, "6", "16", "17"},
		{[]api.Rule{may("")}, "32", "32", "32"},
	} {
		w := sample(t, c.rules...)
		who := "CN=a,ou=x,dc=z"
		w.wants(fmt.Sprint("rules ", i), who, compared("cn=A,ou=x,dc=z", "cn", "a"), c.there)
		w.wants(fmt.Sprint("rules ", i, ": none"), who, compared("cn=A,ou=x,dc=z", "mail", "a"), c.none)
		w.wants(fmt.Sprint("rules ", i, ": no type"), who, compared("cn=A,ou=x,dc=z", "none", "a"), c.not)
		w.wants(fmt.Sprint("rules ", i, ", who may all"), root, compared("cn=A,ou=x,dc=z", "cn", "a"), "6")
	}
	w := sample(t, see, api.Rule{Who: api.Self, Rights: api.Compare, Allow: true})
	w.wants("another's", "cn=b,ou=x,dc=z", compared("cn=A,ou=x,dc=z", "cn", "a"), "50")
}

// P25.7: who asks, as it is spelt.
func TestWhoAmI(t *testing.T) {
	w := sample(t)
	for who, want := range map[string]string{
		"-": "0", root: "0, value dn:cn=root", "CN=A  b+ou=x\\,,dc=Z": "0, value dn:CN=A  b+ou=x\\,,dc=Z", "cn=nowhere": "0, value dn:cn=nowhere",
	} {
		w.wants(who, who, extended(oper.WhoAmI), want)
		w.wants(who+" with a value", who, extended(oper.WhoAmI, ""), "2")
		w.wants(who+" with a value", who, extended(oper.WhoAmI, "x"), "2")
	}
	m := extended(oper.WhoAmI)
	m.Value, m.DN, m.Text = "x", "cn=b", "y"
	w.wants("a value that isn't told", root, m, "0, value dn:cn=root")
	for _, oid := range []string{"", "1.3.6.1.4.1.4203.1.11.2", "1.3.6.1.4.1.1466.20037", oper.WhoAmI + ".1", oper.Passwd + " "} {
		w.wants("another one: "+oid, root, extended(oid), "2")
		w.wants("another one: "+oid, root, extended(oid, said("2new")), "2")
	}
}

// P25.7: a password that is to be another one: one's own, or somebody's.
func TestPasswd(t *testing.T) {
	const a = "cn=a,ou=x,dc=z"
	const front = "0, do, changed cn=A,OU=x,dc=z [changedAt:7 cn:A|other createdAt:1 objectClass:person pwdChanged:7 sn:n userPassword:"
	const b = "0, do, changed cn=b,ou=x,dc=z [changedAt:7 cn:b createdAt:1 objectClass:person pwdChanged:7 sn:n userPassword:"
	for _, c := range []struct {
		what, who string
		m         api.Msg
		want      string
	}{
		{"all parts", root, passwd("0CN=A,ou=x,dc=z", "1p", "2new"), front + "<new@5>], salts 1"},
		{"without the old one", root, passwd("0"+a, "2new"), front + "<new@5>], salts 1"},
		{"one's own", a, passwd("2new"), front + "<new@5>], salts 1"},
		{"one's own, by the old one", a, passwd("1p", "2p"), front + "<p@5>], salts 1"},
		{"one's own by name", a, passwd("0"+a, "2q"), front + "<q@5>], salts 1"},
		{"of one that had none", root, passwd("0cn=b,ou=x,dc=z", "2new"), b + "<new@5>], salts 1"},
		{"a stored one", root, passwd("0"+a, "2"+kept("q", 88)), front + "<q@88>]"},
		{"of 256 bytes", root, passwd("0"+a, "2"+strings.Repeat("l", 256)), front + kept(strings.Repeat("l", 256), 5) + "], salts 1"},
		{"of 257 bytes", root, passwd("0"+a, "2"+strings.Repeat("l", 257)), "19"},
		{"empty", root, passwd("0"+a, "2"), "19"},
		{"another old one", root, passwd("0"+a, "1q", "2new"), "49"},
		{"the old one as it is kept", root, passwd("0"+a, "1"+kept("p", 9), "2new"), "49"},
		{"an empty old one", root, passwd("0"+a, "1", "2new"), "49"},
		{"an old one of one that had none", root, passwd("0cn=b,ou=x,dc=z", "1p", "2new"), "49"},
		{"without a new one", root, passwd("0" + a), "53"},
		{"without a new one, the old one", a, passwd("1p"), "53"},
		{"without a new one, another old one", a, passwd("1q"), "49"},
		{"no parts", a, passwd(), "53"},
		{"no value", a, extended(oper.Passwd), "53"},
		{"no parts, nobody known", "-", passwd(), "53"},
		{"no value, nobody known", "-", extended(oper.Passwd), "53"},
		{"nobody's", root, passwd("0", "2new"), "53"},
		{"one's own, nobody known", "-", passwd("2new"), "53"},
		{"of no name", root, passwd("0cn", "2new"), "34"},
		{"of no entry", root, passwd("0cn=none,dc=z", "2new"), "32, near DC=z"},
		{"one's own, without an entry", root, passwd("2new"), "32"},
		{"of one that wants none", root, passwd("0ou=x,dc=z", "2new"), "65"},
	} {
		sample(t).does(c.what, c.who, c.m, c.want)
	}
	w := sample(t).put("cn=c,dc=z; objectClass:person; cn:c; sn:n; userPassword:<p@9>|<q@10>|plain; pwdChanged:2; pwdLocked:3; pwdFailure:1.0|1.1")
	w.wants("one of several old ones", "-", passwd("0cn=c,dc=z", "1q", "2r"), "0, do, changed cn=c,dc=z [changedAt:7 cn:c objectClass:person pwdChanged:7 sn:n userPassword:<r@5>], salts 1")
	w.wants("an old one that isn't stored", "-", passwd("0cn=c,dc=z", "1plain", "2r"), "49")
	own := "userPassword=" + kept("p", 9) + ",dc=z"
	w.put(own + "; objectClass:person; cn:c; sn:n; userPassword:<p@9>")
	w.wants("of a name that has it", "-", passwd("0"+own, "2r"), "67")
	w.wants("of a name that has it, the same", "-", passwd("0"+own, "2"+kept("p", 9)), "0, do, changed "+own+" [changedAt:7 cn:c objectClass:person pwdChanged:7 sn:n userPassword:<p@9>]")
	m := passwd("0cn=c,dc=z", "2r")
	m.Has = false
	w.wants("a value that isn't told", "cn=b,ou=x,dc=z", m, "53")
}

// P25.7: values that are none of a Passwd.
func TestPasswdValues(t *testing.T) {
	w := sample(t)
	for what, value := range map[string]string{
		"empty":              "",
		"no element":         "\x30",
		"a set":              "\x31\x05\x82\x03new",
		"not constructed":    "\x10\x05\x82\x03new",
		"something behind":   "\x30\x05\x82\x03newx",
		"an element behind":  "\x30\x05\x82\x03new\x30\x00",
		"the other order":    element(0x30, element(0x82, "new")+element(0x81, "p")),
		"whose behind old":   element(0x30, element(0x81, "p")+element(0x80, "cn=a,ou=x,dc=z")+element(0x82, "new")),
		"whose at the end":   element(0x30, element(0x82, "new")+element(0x80, "cn=a,ou=x,dc=z")),
		"new twice":          element(0x30, element(0x82, "new")+element(0x82, "new")),
		"old twice":          element(0x30, element(0x81, "p")+element(0x81, "p")+element(0x82, "new")),
		"whose twice":        element(0x30, element(0x80, "cn=a,ou=x,dc=z")+element(0x80, "cn=a,ou=x,dc=z")+element(0x82, "new")),
		"a fourth":           element(0x30, element(0x82, "new")+element(0x83, "")),
		"a fourth alone":     element(0x30, element(0x83, "new")),
		"one ahead":          element(0x30, element(0x7e, "")+element(0x82, "new")),
		"a text":             element(0x30, element(0x04, "new")),
		"a constructed part": element(0x30, element(0xa2, "")),
		"constructed whose":  element(0x30, element(0xa0, "")+element(0x82, "new")),
		"a nought":           element(0x30, element(0x00, "")),
		"too short":          "\x30\x06\x82\x03new",
		"new alone":          element(0x82, "new"),
	} {
		w.wants(what, "cn=a,ou=x,dc=z", extended(oper.Passwd, value), "2")
	}
	w.wants("a length in more bytes", "cn=b,ou=x,dc=z", extended(oper.Passwd, "\x30\x81\x07\x82\x82\x00\x03new"), "0, do, changed cn=b,ou=x,dc=z [changedAt:7 cn:b createdAt:1 objectClass:person pwdChanged:7 sn:n userPassword:<new@5>], salts 1")
}

// P25.7: a right to write userPassword of that entry, and no other one.
func TestPasswdRights(t *testing.T) {
	see := api.Rule{Rights: api.See, Allow: true}
	for i, c := range []struct {
		rules []api.Rule
		want  string
	}{
		{[]api.Rule{see}, "50"},
		{[]api.Rule{see, allow("", "USERPASSWORD")}, "0"},
		{[]api.Rule{see, allow("", "")}, "0"},
		{[]api.Rule{see, deny("", "userPassword"), allow("", "")}, "50"},
		{[]api.Rule{see, allow("ou=x,dc=z", "cn"), allow("ou=x,dc=z", "pwdChanged")}, "50"},
		{[]api.Rule{see, {Who: api.Self, Attr: "userPassword", Rights: api.Write, Allow: true}}, "0"},
		{[]api.Rule{see, allow("cn=b,ou=x,dc=z", "userPassword")}, "50"},
		{[]api.Rule{{Rights: 7, Allow: true}}, "50"},
		{[]api.Rule{allow("", "")}, "32"},
		{[]api.Rule{{Where: "cn=a,ou=x,dc=z", Rights: api.See}, all()}, "32, near ou=X,dc=Z"},
	} {
		w := sample(t, c.rules...)
		for _, m := range []api.Msg{passwd("1p", "2new"), passwd("0CN=a,ou=x,dc=z", "2new")} {
			got := told(w.ask("cn=A,ou=x,dc=z", m))
			is(t, fmt.Sprint("rules ", i), strings.Split(got, ", do")[0], c.want)
		}
		w.wants(fmt.Sprint("rules ", i, ", who may all"), root, passwd("0cn=b,ou=x,dc=z", "1p"), "49")
	}
	w := sample(t, see, api.Rule{Who: api.Self, Attr: "userPassword", Rights: api.Write, Allow: true})
	w.wants("another's", "cn=b,ou=x,dc=z", passwd("0cn=a,ou=x,dc=z", "2new"), "50")
	w = sample(t, see)
	w.wants("no right, and another old one", "-", passwd("0cn=a,ou=x,dc=z", "1q", "2new"), "50")
	is(t, "the schema", schema.Check(w.Schema), api.OK)
}
