package acl_test

import (
	"fmt"
	"math/rand"
	"strings"
	"testing"

	"castellan/acl"
	"castellan/api"
	"castellan/dn"
	"castellan/schema"
)

// is: a test fails, if something is another thing than was wanted.
func is[T comparable](t *testing.T, what string, got, want T) {
	t.Helper()
	if got != want {
		t.Errorf("%.2000s: %.1000s, wanted %.1000s", what, fmt.Sprint(got), fmt.Sprint(want))
	}
}

// name answers the name of a text.
func name(text string) api.DN {
	d, e := dn.Parse(text)
	if e != api.OK {
		panic(text)
	}
	return d
}

// made answers a book of those rules, of the schema Core.
func made(t *testing.T, admin string, rules ...api.Rule) *acl.Book {
	t.Helper()
	b, e := acl.New(schema.Core(), name(admin), rules...)
	if e != api.OK || b == nil {
		t.Fatalf("New of %+v: %v", rules, e)
	}
	return b
}

// told answers attributes as a text.
func told(list []api.Attr) string {
	var out []string
	for _, a := range list {
		out = append(out, fmt.Sprintf("%s: %q", a.Name, a.Values))
	}
	return strings.Join(out, "; ")
}

// small is Fold in another way.
func small(text string) string {
	out := []byte(text)
	for i, c := range out {
		if c >= 'A' && c <= 'Z' {
			out[i] = c + 32
		}
	}
	return string(out)
}

// same tells whether two names are the same: each lies under the other.
func same(a, b api.DN) bool { return dn.Under(a, b) && dn.Under(b, a) }

// plain is May in another way: rule by rule, by names.
func plain(admin string, rules []api.Rule, who, entry api.DN, attr string, right int) bool {
	rights := map[int]bool{1: true, 2: true, 4: true, 8: true}
	if !rights[right] || !same(who, who) || !same(entry, entry) {
		return false
	}
	if admin != "" && same(who, name(admin)) {
		return true
	}
	for _, r := range rules {
		known := len(who) > 0
		whom := []bool{true, known, same(who, entry), same(who, name(r.DN)), known && dn.Under(who, name(r.DN))}[r.Who]
		what := r.Attr == "" || small(r.Attr) == small(attr)
		if whom && what && dn.Under(entry, name(r.Where)) && r.Rights/right%2 == 1 {
			return r.Allow
		}
	}
	return false
}

// spellings are names as texts; those of one row are the same.
var spellings = [][]string{
	{""},
	{"dc=z", "DC=Z"},
	{"cn=a,dc=z", "CN=A,DC=Z"},
	{"cn=b,dc=z", "cn=B,dc=z"},
	{"ou=x,dc=z", "OU=x,dc=z"},
	{"cn=a,ou=x,dc=z", "cn=a,OU=X,DC=z"},
	{"cn=a+sn=b  c,ou=x,dc=z", "SN=B c+CN=a,ou=x,dc=z"},
	{"cn=a\\,dc=z", "CN=A\\,DC=Z"},
	{"cn=root", "CN=ROOT"},
}

// someName answers one of the names as a text.
func someName(r *rand.Rand) string {
	row := spellings[r.Intn(len(spellings))]
	return row[r.Intn(len(row))]
}

// someRule answers a rule that may be.
func someRule(r *rand.Rand) api.Rule {
	rule := api.Rule{Who: r.Intn(5), Where: someName(r), Rights: 1 + r.Intn(15), Allow: r.Intn(2) == 0}
	if rule.Who >= api.Exactly {
		rule.DN = someName(r)
	}
	if r.Intn(2) == 0 {
		rule.Attr = someAttr(r)
		if rule.Attr == "none" {
			rule.Attr = ""
		}
	}
	return rule
}

// someAttr answers the name of a type, of none, or the empty text.
func someAttr(r *rand.Rand) string {
	return []string{"", "cn", "CN", "sn", "userPassword", "USERpassword", "none"}[r.Intn(7)]
}

// strange answers names that can't be printed.
func strange() map[string]api.DN {
	many := api.DN{}
	for range api.MaxRdns + 1 {
		many = append(many, api.RDN{{Type: "cn", Value: "a"}})
	}
	types := api.RDN{}
	for i := range api.MaxAvas + 1 {
		types = append(types, api.AVA{Type: fmt.Sprint("t", i)})
	}
	return map[string]api.DN{
		"too many RDNs":    many,
		"too many types":   {types},
		"an empty RDN":     {{}},
		"no type":          {{{Type: "c n", Value: "a"}}},
		"a type twice":     {{{Type: "cn", Value: "a"}, {Type: "CN", Value: "b"}}},
		"a name too long":  {{{Type: "cn", Value: strings.Repeat("a", api.MaxText-2)}}},
		"above, no type":   {{{Type: "cn", Value: "a"}}, {{Type: "", Value: "a"}}},
		"above, empty RDN": {{{Type: "cn", Value: "a"}}, nil},
	}
}

// errorsOf tells layer 9's error of each of those names.
func errorsOf() map[string]api.Errno {
	return map[string]api.Errno{
		"too many RDNs": api.ErrMany, "too many types": api.ErrMany, "an empty RDN": api.ErrArg, "no type": api.ErrName,
		"a type twice": api.ErrTwice, "a name too long": api.ErrLong, "above, no type": api.ErrName, "above, empty RDN": api.ErrArg,
	}
}
