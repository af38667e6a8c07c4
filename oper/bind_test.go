package oper_test

import (
	"fmt"
	"strings"
	"testing"

	"castellan/api"
)

// alone answers a world of one entry beneath the suffix's own, with these attributes beside its name and class.
func alone(t *testing.T, list ...string) *world {
	t.Helper()
	w := empty(t, changes(), api.Rule{Where: "dc=y", Rights: 1})
	return w.put("dc=z; objectClass:domain; dc:z", strings.Join(append([]string{"cn=C,DC=z; objectClass:person; cn:c; sn:n"}, list...), "; "))
}

// state is what of that entry a bind may change, in the form in which it is told.
func state(list string) string {
	changed, failed, _ := strings.Cut(list, " pwdFailure")
	if failed != "" {
		failed = " pwdFailure" + failed
	}
	return "changed cn=C,DC=z [cn:c objectClass:person " + changed + failed + " sn:n userPassword:<p@9>]"
}

// P25.6: versions, ways, and names without RDNs.
func TestBind(t *testing.T) {
	w := alone(t, "userPassword:<p@9>", "pwdChanged:2")
	for _, version := range []int{-1, 0, 1, 2, 4, 127, 3 + 1<<32} {
		m := bound("", "")
		m.Version = version
		w.wants(fmt.Sprint("version ", version), "-", m, "2")
		m.Sasl = true
		w.wants(fmt.Sprint("version ", version, ", another way"), "-", m, "2")
	}
	m := bound("", "")
	m.Sasl, m.Mech = true, "PLAIN"
	w.wants("another way", "-", m, "7")
	w.wants("nobody", "-", bound("", ""), "0")
	w.wants("nobody, by somebody", root, bound("", ""), "0")
	w.wants("nobody with a password", "-", bound("", "p"), "49")
	w.wants("nobody with the secret", "-", bound("", "s"), "49")
	w.wants("no name", "-", bound("cn=c,", "p"), "34")
	w.wants("no name, without a password", "-", bound("cn", ""), "34")
	w.wants("without a password", "-", bound("cn=c,dc=z", ""), "53")
	w.wants("without a password, of none", "-", bound("cn=none,dc=z", ""), "53")
	w.wants("without a password, who may all", "-", bound(root, ""), "53")
	for _, spelt := range []string{"cn=C,DC=z", "CN=c,dc=Z", "cn=C,dc=z"} {
		w.wants(spelt, "-", bound(spelt, "p"), "0, who cn=C,DC=z")
		w.wants(spelt+", by somebody", "cn=other", bound(spelt, "p"), "0, who cn=C,DC=z")
	}
	for _, d := range []string{"cn=d,dc=z", "cn=c", "dc=y", "cn=c,cn=c,dc=z", "dc=z"} {
		w.wants("of none, or without one: "+d, "-", bound(d, "p"), "49")
	}
}

// P25.6: who may all is bound by the secret alone, which isn't empty, whatever entry has that name.
func TestBindAdmin(t *testing.T) {
	w := alone(t, "userPassword:<p@9>", "pwdChanged:2")
	w.wants("by the secret", "-", bound(root, "s"), "0, who cn=root")
	w.wants("as it is spelt", "-", bound("CN=ROOT", "s"), "0, who CN=ROOT")
	for _, p := range []string{"S", "s ", "ss", "p", "\x00", kept("s", 1)} {
		w.wants("by "+p, "-", bound(root, p), "49")
	}
	w.wants("beneath them", "-", bound("cn=c,cn=root", "s"), "49")
	w.Secret = ""
	w.wants("an empty secret", "-", bound(root, ""), "53")
	w.wants("an empty secret, another password", "-", bound(root, "s"), "49")
	w.Admin, w.Secret = name("cn=c,dc=z"), "s"
	w.wants("an entry's name", "-", bound("CN=c,dc=z", "s"), "0, who CN=c,dc=z")
	w.wants("an entry's name, by its password", "-", bound("CN=c,dc=z", "p"), "49")
	w.Admin = nil
	w.wants("no name", "-", bound("", "s"), "49")
	w.wants("no name, an entry", "-", bound("CN=c,dc=z", "p"), "0, who cn=C,DC=z")
	w.Admin = api.DN{{}}
	w.wants("a name that can't be printed", "-", bound("CN=c,dc=z", "p"), "0, who cn=C,DC=z")
	w.wants("a name that can't be printed, by the secret", "-", bound("cn=c,dc=z", "s"), "49, do, "+state("pwdChanged:2 pwdFailure:7.0"))
	w.Secret = kept("p", 9)
	w.Admin = name(root)
	w.wants("a secret that is a stored password", "-", bound(root, "p"), "49")
	w.wants("a secret that is a stored password, itself", "-", bound(root, kept("p", 9)), "0, who cn=root")
}

// P25.6: a password is the right one, if one of the values is made of it; those that aren't stored ones are made of none.
func TestBindPasswords(t *testing.T) {
	long := strings.Repeat("l", 256)
	w := alone(t, "userPassword:<p@9>|<q@9>|plain|"+kept(long, 3), "pwdChanged:2")
	w.Policy = api.Policy{}
	for p, right := range map[string]bool{"p": true, "q": true, long: true, "plain": false, "P": false, "pq": false, "l": false, long + "l": false, kept("p", 9): false, " p": false} {
		got := told(w.ask("-", bound("cn=c,dc=z", p)))
		is(t, "by "+p, strings.HasPrefix(got, "0, who cn=C,DC=z"), right)
		is(t, "by "+p, strings.HasPrefix(got, "49, do, "), !right)
	}
	w = alone(t, "userPassword:plain|")
	w.wants("none that is a stored one", "-", bound("cn=c,dc=z", "plain"), "49, do, changed cn=C,DC=z [cn:c objectClass:person pwdChanged:0 pwdFailure:7.0 sn:n userPassword:|plain]")
	w = alone(t)
	w.wants("none", "-", bound("cn=c,dc=z", "p"), "49")
}

// P25.6: tries, one behind the other, by a policy of 2 failures within 10, and a lock of 5.
func TestBindTries(t *testing.T) {
	w := alone(t, "userPassword:<p@9>", "pwdChanged:2")
	for _, c := range []struct {
		now      int64
		password string
		want     string
	}{
		{3, "p", "0, who cn=C,DC=z"},
		{4, "q", "49, do, " + state("pwdChanged:2 pwdFailure:4.0")},
		{5, "p", "0, do, " + state("pwdChanged:2") + ", who cn=C,DC=z"},
		{6, "p", "0, who cn=C,DC=z"},
		{7, "q", "49, do, " + state("pwdChanged:2 pwdFailure:7.0")},
		{17, "q", "49, do, " + state("pwdChanged:2 pwdFailure:17.0")},
		{17, "q", "49, do, changed cn=C,DC=z [cn:c objectClass:person pwdChanged:2 pwdLocked:17 sn:n userPassword:<p@9>]"},
		{18, "q", "49"},
		{19, "p", "49"},
		{21, "p", "49"},
		{22, "p", "0, do, " + state("pwdChanged:2") + ", who cn=C,DC=z"},
		{23, "q", "49, do, " + state("pwdChanged:2 pwdFailure:23.0")},
		{32, "r", "49, do, changed cn=C,DC=z [cn:c objectClass:person pwdChanged:2 pwdLocked:32 sn:n userPassword:<p@9>]"},
		{37, "r", "49, do, " + state("pwdChanged:2 pwdFailure:37.0")},
		{31, "p", "0, do, " + state("pwdChanged:2") + ", who cn=C,DC=z"},
	} {
		w.now = c.now
		w.does(fmt.Sprint("at ", c.now), "-", bound("cn=c,dc=z", c.password), c.want)
	}
	w.Policy = api.Policy{Fails: 3, Window: 0, Lock: 0, Age: 50}
	for _, c := range []struct {
		now      int64
		password string
		want     string
	}{
		{50, "q", "49, do, " + state("pwdChanged:2 pwdFailure:50.0")},
		{50, "q", "49, do, " + state("pwdChanged:2 pwdFailure:50.0|50.1")},
		{51, "p", "0, do, " + state("pwdChanged:2") + ", who cn=C,DC=z"},
		{51, "q", "49, do, " + state("pwdChanged:2 pwdFailure:51.0")},
		// Too old: it is told like a wrong one, and nothing is kept of that
		{52, "p", "49"},
		{api.MaxTime, "p", "49"},
		{40, "q", "49, do, " + state("pwdChanged:2 pwdFailure:40.0|51.0")},
		{45, "p", "0, do, " + state("pwdChanged:2") + ", who cn=C,DC=z"},
		{45, "q", "49, do, " + state("pwdChanged:2 pwdFailure:45.0")},
		{45, "q", "49, do, " + state("pwdChanged:2 pwdFailure:45.0|45.1")},
		{45, "q", "49, do, changed cn=C,DC=z [cn:c objectClass:person pwdChanged:2 pwdLocked:45 sn:n userPassword:<p@9>]"},
		{api.MaxTime, "p", "49"},
	} {
		w.now = c.now
		w.does(fmt.Sprint("at ", c.now, ", by another policy"), "-", bound("cn=c,dc=z", c.password), c.want)
	}
	w.Policy.Age = -1
	w.wants("a policy that may not be", "-", bound("cn=c,dc=z", "p"), "49")
	w.wants("a policy that may not be", "-", bound("cn=c,dc=z", "q"), "49")
	w.wants("who may all is never locked", "-", bound(root, "s"), "0, who cn=root")
}

// P25.6: nobody need see the entry, nor have any right, and no stamp but those of the state comes.
func TestBindUnseen(t *testing.T) {
	w := sample(t, api.Rule{Rights: 15})
	w.does("right", "-", bound("cn=a,ou=x,dc=z", "p"), "0, who cn=A,OU=x,dc=z")
	w.does("wrong", "cn=b,ou=x,dc=z", bound("cn=a,ou=x,dc=z", "q"), "49, do, changed cn=A,OU=x,dc=z [cn:A|other createdAt:1 objectClass:person pwdChanged:2 pwdFailure:7.0 sn:n userPassword:<p@9>]")
	w.wants("none", "-", bound("cn=c,ou=x,dc=z", "p"), "49")
	w.wants("without one", "-", bound("cn=b,ou=x,dc=z", "p"), "49")
}

// P25.6: values that tell no time, and schemas that have no place for some of what is to be told.
func TestBindStates(t *testing.T) {
	w := alone(t, "userPassword:<p@9>", "pwdFailure:x|3.0|3|4.00|5.100|6.1")
	w.wants("failures of other forms", "-", bound("cn=c,dc=z", "p"), "0, do, "+state("pwdChanged:0")+", who cn=C,DC=z")
	w = alone(t, "userPassword:<p@9>", "pwdFailure:x|3")
	w.wants("no failures", "-", bound("cn=c,dc=z", "p"), "0, who cn=C,DC=z")
	w.wants("no failures, a wrong one", "-", bound("cn=c,dc=z", "q"), "49, do, "+state("pwdChanged:0 pwdFailure:7.0"))
	person := "cn=C,DC=z; objectClass:person; cn:c; sn:n; userPassword:<p@9>"
	for _, c := range []struct{ gone, first, second string }{
		{"pwdChanged", "pwdFailure:7.0", "pwdLocked:7"},
		{"pwdFailure", "pwdChanged:0", "pwdChanged:0"},
		{"pwdLocked", "pwdChanged:0 pwdFailure:7.0", "pwdChanged:0"},
	} {
		w := empty(t, changes(without(c.gone))).put("dc=z; objectClass:domain; dc:z", person)
		front, behind := "49, do, changed cn=C,DC=z [cn:c objectClass:person ", " sn:n userPassword:<p@9>]"
		w.does("without "+c.gone, "-", bound("cn=c,dc=z", "q"), front+c.first+behind)
		if c.gone == "pwdFailure" {
			c.second = c.first
		}
		w.does("without "+c.gone+", again", "-", bound("cn=c,dc=z", "q"), front+c.second+behind)
	}
	w = empty(t, changes(without("pwdChanged", "pwdFailure", "pwdLocked"))).put("dc=z; objectClass:domain; dc:z", person)
	w.does("without any", "-", bound("cn=c,dc=z", "q"), "49, do, changed cn=C,DC=z [cn:c objectClass:person sn:n userPassword:<p@9>]")
	w.does("without any, the right one", "-", bound("cn=c,dc=z", "p"), "0, who cn=C,DC=z")
	// What a schema doesn't let stand isn't told, and the try comes to what it comes to
	single := typed("pwdFailure", func(x *api.Type) { x.Single = true })
	w = empty(t, changes(single)).put("dc=z; objectClass:domain; dc:z", person)
	w.Policy = api.Policy{}
	w.does("one failure", "-", bound("cn=c,dc=z", "q"), "49, do, "+state("pwdChanged:0 pwdFailure:7.0"))
	w.wants("two failures", "-", bound("cn=c,dc=z", "q"), "49")
	w.wants("the right one", "-", bound("cn=c,dc=z", "p"), "0, do, "+state("pwdChanged:0")+", who cn=C,DC=z")
	truth := typed("pwdChanged", func(x *api.Type) { x.Syntax = api.Truth })
	w = empty(t, changes(truth)).put("dc=z; objectClass:domain; dc:z", person+"; pwdFailure:5.0")
	w.wants("a right one of which nothing can be told", "-", bound("cn=c,dc=z", "p"), "0, who cn=C,DC=z")
	w.wants("a wrong one of which nothing can be told", "-", bound("cn=c,dc=z", "q"), "49")
}
