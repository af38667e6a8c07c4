package oper_test

import (
	"fmt"
	"maps"
	"math"
	"math/rand"
	"slices"
	"strings"
	"testing"

	"castellan/api"
	"castellan/check"
	"castellan/entry"
	"castellan/oper"
	"castellan/pass"
	"castellan/schema"
)

// chance makes things by chance.
type chance struct{ *rand.Rand }

// one answers one of these, told with blanks between two.
func (r chance) one(words string) string {
	list := strings.Fields(words)
	return list[r.Intn(len(list))]
}

// in tells whether something is so that is so once in so many times.
func (r chance) in(times int) bool { return r.Intn(times) == 0 }

// line answers a line of an attribute, whose values are often some that may be.
func (r chance) line(name string) string {
	values := map[string]string{
		"cn": "a b c A", "sn": "n m", "ou": "x y z", "dc": "z y", "description": "d e D", "uid": "u v", "mail": "m", "member": "cn=a dc=z cn=a,,b", "userpassword": "p q r p <p@9> <q@10> " + strings.Repeat("l", 257),
		"employeenumber": "1 22 -0", "active": "TRUE FALSE yes", "objectclass": "person person inetPerson domain organizationalUnit group top secured labelled none", "createdat": "1", "changedat": "2", "pwdfailure": "1.0", "pwdlocked": "3", "pwdchanged": "4", "none": "x",
	}[strings.ToLower(name)]
	if values == "" {
		values = "x"
	}
	out := []string{r.one(values)}
	for r.in(5) && r.in(2) {
		out = append(out, r.one(values))
	}
	if r.in(60) {
		out = append(out, "")
	}
	return name + ":" + strings.Join(out, "|")
}

// attr answers the name of an attribute.
func (r chance) attr() string {
	if r.in(60) {
		return r.one("createdAt CHANGEDAT pwdFailure pwdLocked pwdChanged none")
	}
	return r.one("cn CN sn description description uid mail userPassword USERPASSWORD userPassword employeeNumber active ou objectClass member")
}

// person answers lines of a person of that name, with what may be there often beside it.
func (r chance) person(cn string) []string {
	out := []string{"cn:" + cn, "sn:n", "objectClass:person"}
	if r.in(3) {
		out[2] = "objectClass:top|inetPerson"
		for r.in(2) {
			out = append(out, r.line(r.one("uid mail employeeNumber active")))
		}
	}
	if r.in(2) {
		out = append(out, r.line(r.one("userPassword USERpassword")))
	}
	if r.in(4) {
		out = append(out, r.line(r.one("cn description")))
	}
	return out
}

// schema answers Core, or one that has other stamps.
func (r chance) schema() api.Schema {
	kind := func(n int) func(*api.Type) { return func(x *api.Type) { x.Syntax = n } }
	switch r.Intn(18) {
	case 7:
		return changes(without("userPassword"))
	case 0:
		return changes(without(r.one("createdAt changedAt pwdFailure pwdLocked pwdChanged userPassword")))
	case 1:
		return changes(without("createdAt", "changedAt", "pwdFailure", "pwdLocked", "pwdChanged"))
	case 2:
		return changes(typed(r.one("createdAt changedAt pwdLocked pwdChanged"), kind(api.Truth)))
	case 3:
		return changes(typed("pwdFailure", func(x *api.Type) { x.Single = true }))
	case 4:
		return changes(func(s *api.Schema) { s.Classes[0].May = s.Classes[0].May[:r.Intn(5)] })
	case 5:
		return changes(typed(r.one("createdAt changedAt pwdChanged description"), func(x *api.Type) { x.Oper = !x.Oper }))
	case 6:
		return changes(typed("userPassword", func(x *api.Type) { x.Single = true }))
	}
	return changes()
}

// rules answers rules most of which allow.
func (r chance) rules(s api.Schema) []api.Rule {
	var out []api.Rule
	for range r.Intn(4) {
		rule := api.Rule{Who: r.Intn(3), Rights: 1 + r.Intn(15), Allow: r.in(2), Where: r.one("dc=z ou=x,dc=z cn=a,ou=x,dc=z cn=b,ou=x,dc=z ou=y,dc=z")}
		if r.in(2) {
			rule.Attr = r.one("cn userPassword description objectClass sn")
			if _, ok := schema.Find(s, rule.Attr); !ok {
				rule.Attr = ""
			}
		}
		out = append(out, rule)
	}
	if !r.in(8) {
		out = append(out, api.Rule{Rights: []int{15, 15, 15, 7, 9}[r.Intn(5)], Allow: true})
	}
	return out
}

// world answers a world of some entries, which fit but for a few.
func (r chance) world(t *testing.T) *world {
	t.Helper()
	s := r.schema()
	w := empty(t, s, r.rules(s)...)
	w.Policy = api.Policy{Fails: r.Intn(4), Window: int64(r.Intn(8)), Lock: int64(r.Intn(6)), Age: int64(r.Intn(2) * r.Intn(30))}
	w.Admin, w.Secret = name(r.one("cn=root cn=root cn=root cn=a,ou=x,dc=z")), r.one("s p")
	for _, line := range []string{"dc=Z; objectClass:domain; dc:z", "ou=X,dc=z; objectClass:organizationalUnit; ou:x", "OU=y,dc=z; objectClass:organizationalUnit; ou:y", "ou=y,OU=y,dc=z; objectClass:organizationalUnit; ou:y|z"} {
		if !r.in(20) {
			w.some(line)
		}
	}
	for range 6 {
		cn := r.one("a A b c")
		w.some(strings.Join(append([]string{"cn=" + cn + "," + r.one("ou=x,dc=z ou=x,DC=Z ou=y,dc=z dc=z cn=a,ou=x,dc=z")}, r.person(cn)...), "; ") + r.one(" ; ;pwdFailure:1.0|3.1|5.0 ;pwdLocked:6 ;pwdChanged:5"))
	}
	return w
}

// some lets there be an entry, if it may be.
func (w *world) some(line string) {
	words := strings.Split(strings.ReplaceAll(line, " ;", ";"), ";")
	var list []string
	for _, word := range words[1:] {
		if word = strings.TrimSpace(word); word != "" {
			list = append(list, word)
		}
	}
	if attrs, code := entry.Make(w.Schema, lines(list...)...); code == api.Success {
		w.tree.Do(api.Update{Kind: api.Added, DN: name(words[0]), Attrs: attrs})
	}
}

// name answers the text of a name, mostly of an entry, in some spelling.
func (r chance) name(w *world) string {
	out := "dc=z"
	if all := rows(w.View); len(all) > 0 {
		out = text(all[r.Intn(len(all))].name)
	}
	switch r.Intn(40) {
	case 0:
		return ""
	case 1:
		return out + ","
	case 2:
		return "cn=none," + out
	case 3:
		return out + ",dc=y"
	case 4, 5, 6, 7:
		return strings.ToUpper(out)
	}
	return out
}

// rdn answers the text of an RDN.
func (r chance) rdn() string {
	return r.one("cn=a CN=B cn=c cn=c cn=d ou=x ou=w sn=n cn=a+sn=m uid=u description=d userPassword=p createdAt=1 cn=a+PWDLOCKED=1 none=x active=x cn cn=a,ou=x cn=+cn=")
}

// who answers somebody.
func (r chance) who(w *world) string {
	switch r.Intn(5) {
	case 0:
		return "-"
	case 1, 2:
		return root
	}
	if d := r.name(w); !strings.HasSuffix(d, ",") && d != "" {
		return d
	}
	return "cn=who"
}

// msg answers a request, most of whose parts are such that it can be done.
func (r chance) msg(w *world) api.Msg {
	switch r.Intn(9) {
	case 0, 1:
		return r.addition(w)
	case 2, 3:
		var list []string
		for !r.in(3) {
			list = append(list, r.mod())
		}
		return modified(r.name(w), list...)
	case 4:
		return deleted(r.name(w))
	case 5:
		m := moved(r.name(w), r.rdn(), r.in(2))
		if r.in(2) {
			m.HasSup, m.Sup = true, r.name(w)
		}
		return m
	case 6:
		attr := r.one("cn cn sn ou objectClass userPassword dc createdAt") + r.one("| | | | | | x")
		attr = strings.Trim(attr, "|")
		_, values, _ := strings.Cut(r.line(attr), ":")
		if r.in(12) {
			values = "\xff"
		}
		return compared(r.name(w), attr, strings.Split(values, "|")[0])
	case 7:
		return r.credentials(w)
	}
	return r.extension(w)
}

// mod answers a modification, as a line.
func (r chance) mod() string {
	attr := r.attr()
	if r.in(4) {
		return r.one("- = - +") + attr
	}
	return r.one("+ - = + - = + - = + - = ?") + r.line(attr)
}

// addition answers an AddReq.
func (r chance) addition(w *world) api.Msg {
	d := r.name(w)
	if r.in(12) {
		m := added("DC=z", "dc:z", "objectClass:domain")
		if r.in(2) {
			m.DN = d
		}
		return m
	}
	cn := r.one("a b c d e f")
	m := added("cn="+cn+","+d, r.person(cn)...)
	switch r.Intn(12) {
	case 0:
		m.Attrs = append(m.Attrs, lines(r.line(r.attr()))...)
	case 1:
		m.Attrs = slices.Delete(m.Attrs, 0, 1)
	case 2:
		m.Attrs[r.Intn(len(m.Attrs))].Values = nil
	}
	return m
}

// credentials answers a BindReq.
func (r chance) credentials(w *world) api.Msg {
	m := bound(r.name(w), r.one("p p q r s"))
	if all := rows(w.View); r.in(2) && len(all) > 0 {
		// Often of somebody who has a password
		for range 20 {
			x := all[r.Intn(len(all))]
			if len(entry.Get(x.attrs, "userPassword")) > 0 {
				m.DN = text(x.name)
			}
		}
	}
	switch r.Intn(20) {
	case 0:
		m.Version = r.Intn(5)
	case 1:
		m.Sasl = true
	case 2:
		m.Text = ""
	case 3:
		m.DN = ""
	case 4, 5:
		m.DN = root
	}
	return m
}

// extension answers an ExtendedReq.
func (r chance) extension(w *world) api.Msg {
	if r.in(6) {
		m := extended(r.one(oper.WhoAmI + " " + oper.WhoAmI + " 1.2"))
		m.Has = r.in(4)
		return m
	}
	var parts []string
	if !r.in(4) {
		parts = append(parts, "0"+r.name(w))
	}
	if r.in(3) {
		parts = append(parts, "1"+r.one("p p q"))
	}
	if !r.in(6) {
		parts = append(parts, "2"+r.one("p q new new new <p@9>"))
	}
	if r.in(8) {
		parts = append(parts, r.one("0 1 2 2 2 3"))
	}
	m := passwd(parts...)
	if len(m.Value) > 129 {
		m.Value = said("2new")
	}
	switch r.Intn(20) {
	case 0:
		m.Has = false
	case 1:
		m.Value = m.Value[:r.Intn(len(m.Value))]
	}
	return m
}

// kinds are the operations' names.
var kinds = map[int]string{0: "bind", 6: "modify", 8: "add", 10: "delete", 12: "move", 14: "compare", 23: "extended"}

// seen are codes that tests by chance must come to, behind their operations: do, where there is an update.
const seen = "adddo 0 add 17 add 19 add 20 add 21 add 32 add 34 add 50 add 64 add 65 add 68 " +
	"modifydo 0 modify 2 modify 16 modify 17 modify 19 modify 20 modify 21 modify 32 modify 34 modify 50 modify 65 modify 67 modify 69 " +
	"deletedo 0 delete 32 delete 34 delete 50 delete 66 " +
	"movedo 0 move 17 move 19 move 21 move 32 move 34 move 50 move 53 move 65 move 68 " +
	"compare 5 compare 6 compare 16 compare 17 compare 21 compare 32 compare 34 compare 50 " +
	"bind 0 binddo 0 binddo 49 bind 2 bind 7 bind 34 bind 49 bind 53 " +
	"extended 0 extendeddo 0 extended 2 extended 17 extended 19 extended 32 extended 34 extended 49 extended 50 extended 53 extended 65"

// P25.1 to P25.8: worlds and requests by chance, as told in another way; what is to be done can be, and is done.
func TestSome(t *testing.T) {
	r := chance{rand.New(rand.NewSource(25))}
	count := map[string]int{}
	for range 700 {
		w := r.world(t)
		w.now = int64(r.Intn(20))
		for range 60 {
			if r.in(3) {
				w.now = max(0, w.now+int64(r.Intn(5))-1)
			}
			w.salt = []uint64{0, 5, math.MaxUint64 - 1, math.MaxUint64}[r.Intn(4)]
			who, m := r.who(w), r.msg(w)
			what := fmt.Sprintf("%+v by %s at %d", m, who, w.now)
			a := w.ask(who, m)
			is(t, what, told(a), told(plainDo(w.Env, somebody(who), m, w.now, w.salt)))
			done := ""
			if a.Do {
				done = "do"
			}
			count[fmt.Sprint(kinds[m.Op], done, " ", a.Code)]++
			w.follow(what, m, a)
		}
	}
	for i, words := 0, strings.Fields(seen); i < len(words); i += 2 {
		if what := words[i] + " " + words[i+1]; count[what] < 10 {
			t.Errorf("too few of %s: %d", what, count[what])
		}
	}
	if t.Failed() {
		t.Log(slices.Sorted(maps.Keys(count)), count)
	}
}

// follow does what is to be done, and holds it against what follows of the promises (P25.8).
func (w *world) follow(what string, m api.Msg, a oper.Answer) {
	w.Helper()
	if m.Op == api.BindReq && a.Code == api.Success && len(a.Who) > 0 && !same(a.Who, w.Admin) {
		_, attrs := w.View.Entry(w.View.Find(a.Who))
		right := func(v string) bool { return pass.Check(v, m.Text) }
		is(w.T, what+": proved", slices.ContainsFunc(entry.Get(attrs, "userPassword"), right), true)
	}
	if !a.Do {
		return
	}
	if m.Op != api.BindReq {
		w.right(what, a)
	} else if _, attrs := w.View.Entry(w.View.Find(a.U.DN)); check.Fits(w.Schema, a.U.DN[0], attrs) == api.Success && len(w.Schema.Classes[0].May) == 5 {
		w.right(what, a)
	}
	is(w.T, what+": done", w.tree.Do(a.U), api.Success)
}
