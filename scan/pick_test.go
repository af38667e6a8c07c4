package scan_test

import (
	"fmt"
	"math"
	"math/rand"
	"strings"
	"testing"

	"castellan/api"
	"castellan/scan"
	"castellan/schema"
)

// P24.2: which attributes are picked, in the order in which they stand, each once.
func TestPick(t *testing.T) {
	list := attrs(t, "cn:a|b", "sn:x", "userPassword:p", "createdAt:5", "pwdFailure:5.0|7.0", "objectClass:top")
	users, opers := "cn:a|b objectClass:top sn:x userPassword:p", "createdAt:5 pwdFailure:5.0|7.0"
	all := "cn:a|b createdAt:5 objectClass:top pwdFailure:5.0|7.0 sn:x userPassword:p"
	for names, want := range map[string]string{
		"": users, "*": users, "+": opers, "* +": all, "+ *": all, "* *": users, "+ +": opers,
		"cn": "cn:a|b", "CN": "cn:a|b", "sn cn": "cn:a|b sn:x", "cn CN cn": "cn:a|b", "createdat": "createdAt:5", "PWDFAILURE": "pwdFailure:5.0|7.0", "objectclass userpassword": "objectClass:top userPassword:p",
		"* cn": users, "+ cn": "cn:a|b " + opers, "* createdAt": "cn:a|b createdAt:5 objectClass:top sn:x userPassword:p", "cn +": "cn:a|b " + opers,
		"description": "", "none": "", "1.1": "", "cn description none": "cn:a|b", "** ++": "", "c": "", "cnn": "", "cn;x": "", "changedAt": "", "none *": users,
	} {
		is(t, names, told(scan.Pick(schema.Core(), list, strings.Fields(names), false)), want)
		without := []string{}
		for _, word := range strings.Fields(want) {
			without = append(without, strings.Split(word, ":")[0]+":")
		}
		is(t, names+", types", told(scan.Pick(schema.Core(), list, strings.Fields(names), true)), strings.Join(without, " "))
	}
	is(t, "the empty name", told(scan.Pick(schema.Core(), list, []string{""}, false)), "")
	is(t, "blanks", told(scan.Pick(schema.Core(), list, []string{" cn", "cn ", " *", "* "}, false)), "")
	is(t, "letters of others", told(scan.Pick(schema.Core(), list, []string{"\u017fn", "\xff"}, false)), "")
	is(t, "none", len(scan.Pick(schema.Core(), nil, nil, false)), 0)
}

// P24.2: which types are Oper says the schema that is handed in.
func TestPickSchema(t *testing.T) {
	s := schema.Core()
	for i := range s.Types {
		s.Types[i].Oper = !s.Types[i].Oper
	}
	list := attrs(t, "cn:a", "createdAt:5")
	is(t, "the other way", told(scan.Pick(s, list, nil, false)), "createdAt:5")
	is(t, "the other way, +", told(scan.Pick(s, list, []string{"+"}, false)), "cn:a")
	own := api.Schema{Types: []api.Type{{Name: "Color", Oper: true}, {Name: "objectClass"}}}
	is(t, "another", told(scan.Pick(own, []api.Attr{{Name: "Color", Values: []string{"red"}}, {Name: "objectClass"}}, []string{"+"}, false)), "Color:red")
	// P1: of schemas that may not be, and attributes that aren't in form
	for _, s := range []api.Schema{{}, {Types: []api.Type{{}, {Name: "cn", Syntax: math.MinInt}, {Name: "cn", Oper: true}}}} {
		for _, list := range [][]api.Attr{{{}}, {{Name: "cn"}, {Name: "CN"}, {Name: "*"}, {Name: "+"}, {Name: "\xff", Values: []string{"", "\xff"}}}} {
			for _, names := range [][]string{nil, {"*"}, {"+"}, {""}, {"cn", "\xff"}} {
				scan.Pick(s, list, names, false)
				scan.Pick(s, list, names, true)
			}
		}
	}
}

// P24.2: by chance, as told in another way.
func TestSomePick(t *testing.T) {
	r := rand.New(rand.NewSource(242))
	some := 0
	for range 6000 {
		list, a := someAttrs(t, r), someAsk(r, nil)
		got := scan.Pick(schema.Core(), list, a.Names, a.TypesOnly)
		is(t, fmt.Sprintf("%q of %q", a.Names, list), told(got), told(plainPick(list, a.Names, a.TypesOnly)))
		if len(got) > 0 && len(got) < len(list) {
			some++
		}
	}
	if some < 1500 {
		t.Errorf("too few that pick some: %d", some)
	}
}

// Memory: what is handed in stays, spare room included, and isn't kept; answers share nothing.
func TestPickMemory(t *testing.T) {
	list := []api.Attr{{Name: "cn", Values: []string{"a", "b", "spare"}[:2]}, {Name: "sn", Values: []string{"c"}}, {Name: "spare"}}
	names := []string{"SN", "Cn", "spare"}
	before := fmt.Sprintf("%q %q %q", list, list[0].Values[:3], names)
	first := scan.Pick(schema.Core(), list[:2], names[:2], false)
	second := scan.Pick(schema.Core(), list[:2], names[:2], false)
	for _, a := range first {
		values := a.Values[:cap(a.Values)]
		for i := range values {
			values[i] = "spoilt"
		}
	}
	clear(first[:cap(first)])
	is(t, "what was handed in", fmt.Sprintf("%q %q %q", list, list[0].Values[:3], names), before)
	is(t, "another answer", told(second), "cn:a|b sn:c")
	scan.Pick(schema.Core(), list[:2], names[:0], true)
	is(t, "what was handed in, without names", fmt.Sprintf("%q %q %q", list, list[0].Values[:3], names), before)
}
