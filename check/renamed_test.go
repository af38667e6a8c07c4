package check_test

import (
	"fmt"
	"math/rand"
	"reflect"
	"strings"
	"testing"

	"castellan/api"
	"castellan/check"
	"castellan/schema"
)

// P15.3: Renamed of an entry with cn: a, b, sn: x, employeeNumber: 1; what is told first.
func TestRenamed(t *testing.T) {
	s := schema.Core()
	const rest = `; employeeNumber: ["1"]; sn: ["x"]`
	same := `cn: ["a" "B"]` + rest
	for _, c := range []struct {
		was, now   string
		keep, drop string // behind it, without drop and with it
	}{
		{"", "", same, same},
		{"cn=a", "cn=a", same, same},
		{"cn=a", "CN= A ", same, same},
		{"cn=a", "cn=b", same, `cn: ["B"]` + rest},
		{"cn=a", "cn=c", `cn: ["a" "B" "c"]` + rest, `cn: ["B" "c"]` + rest},
		{"cn=a", "", same, `cn: ["B"]` + rest},
		{"cn=a+cn=b", "", same, `employeeNumber: ["1"]; sn: ["x"]`},
		{"cn=a+cn=b", "cn=C", `cn: ["a" "B" "C"]` + rest, `cn: ["C"]` + rest},
		{"cn=a+sn=x", "cn=a", same, `cn: ["a" "B"]; employeeNumber: ["1"]`},
		{"cn=a+sn=x", "sn=X+cn=A", same, same},
		{"CN= A +SN=X", "uid=u", same + `; uid: ["u"]`, `cn: ["B"]; employeeNumber: ["1"]; uid: ["u"]`},
		{"", "description=a", `cn: ["a" "B"]; description: ["a"]` + rest, `cn: ["a" "B"]; description: ["a"]` + rest},
		{"cn=a", "description=a", `cn: ["a" "B"]; description: ["a"]` + rest, `cn: ["B"]; description: ["a"]` + rest},
		// What was, and isn't there, or can't be
		{"cn=c", "cn=d", `cn: ["a" "B" "d"]` + rest, `cn: ["a" "B" "d"]` + rest},
		{"uid=u", "cn=a", same, same},
		{"no=a", "cn=a", same, same},
		{"=a", "cn=a", same, same},
		{"cn=", "cn=a", same, same},
		{"employeeNumber=01", "cn=a", same, same},
		{"no=a+cn=b", "cn=a", same, `cn: ["a"]` + rest},
		// Types that have one value at most
		{"employeeNumber=1", "employeeNumber=1", same, same},
		{"employeeNumber=1", "employeeNumber=2", "19", `cn: ["a" "B"]; employeeNumber: ["2"]; sn: ["x"]`},
		{"cn=a", "employeeNumber=2", "19", "19"},
		{"cn=a", "active=TRUE+active=FALSE", "19", "19"},
		// A type twice: there, and not there, is asked of what was handed in
		{"cn=a+cn=A", "cn=b", same, "16"},
		{"cn=a+cn=A", "cn=a", same, same},
		{"cn=c+cn=C", "cn=b", same, same},
		{"cn=a", "cn=c+cn=C", "20", "20"},
		{"cn=a", "cn=b+cn=B", same, `cn: ["B"]` + rest},
		{"cn=a+cn=A", "cn=c+cn=C", "20", "16"},
		{"sn=x", "uid=u+sn=y+uid=U", "20", "20"},
		// What is now is asked ahead of all
		{"cn=a", "no=x", "17", "17"},
		{"cn=a", "=x", "17", "17"},
		{"cn=a", "cn=", "21", "21"},
		{"cn=a", "active=1", "21", "21"},
		{"cn=a", "cn=c+no=x+cn=", "17", "17"},
		{"cn=a", "cn=c+cn=+no=x", "21", "21"},
		{"cn=a", "cn=c+cn=C+no=x", "17", "17"},
		{"cn=a+cn=A", "cn=c+no=x", "17", "17"},
		{"cn=a+cn=A", "cn=\xff", "21", "21"},
		{"cn=a", "cn=" + strings.Repeat("c", 4097), "21", "21"},
		{"cn=a", "employeeNumber=2+cn=", "21", "21"},
	} {
		list := attrs(t, s, "cn:B,a", "sn:x", "employeeNumber:1")
		for drop, want := range map[bool]string{false: c.keep, true: c.drop} {
			is(t, fmt.Sprintf("from %q to %.40q, %v", c.was, c.now, drop), renamed(t, s, list, c.was, c.now, drop), want)
			is(t, fmt.Sprintf("from %q to %.40q, %v, said in another way", c.was, c.now, drop), outcome(plainRenamed(s, list, rdn(c.was), rdn(c.now), drop)), want)
		}
	}
	is(t, "of nothing", renamed(t, s, nil, "cn=a", "cn=b", true), `cn: ["b"]`)
	is(t, "of nothing to nothing", renamed(t, s, nil, "cn=a", "", true), ``)
}

// P15.3: Renamed of attributes by chance is as said in another way; with Success they have what is now, and with drop
// not what was.
func TestRenamedSome(t *testing.T) {
	r := rand.New(rand.NewSource(17))
	s := schema.Core()
	count := map[int]int{}
	for range 60000 {
		list := someAttrs(r, s)
		was, now, drop := someRDN(r, list), someRDN(r, list), r.Intn(2) == 0
		what := fmt.Sprintf("%s from %q to %q, %v", told(list), was, now, drop)
		want, wantCode := plainRenamed(s, list, was, now, drop)
		before := told(list)
		got, code := check.Renamed(s, list, was, now, drop)
		is(t, what, outcome(got, code), outcome(want, wantCode))
		is(t, "what was handed in", told(list), before)
		count[code]++
		if code != api.Success {
			continue
		}
		has := keys(s, got)
		left := map[string]bool{}
		for _, a := range now {
			k, _ := key(s, a.Type, a.Value)
			is(t, what+" has "+k, has[k], true)
			left[k] = true
		}
		for _, a := range was {
			k, wrong := key(s, a.Type, a.Value)
			is(t, what+" has no "+k, drop && wrong == 0 && has[k] && !left[k], false)
		}
	}
	for _, code := range []int{api.Success, api.UndefinedType, api.InvalidSyntax, api.Constraint, api.NoSuchAttr, api.ValueExists} {
		if count[code] < 50 {
			t.Errorf("too few with %d: %v", code, count)
		}
	}
}

// Memory: what is handed in stays as it is, spare room, too, and the answer is other memory.
func TestMemory(t *testing.T) {
	s := schema.Core()
	room := func() ([]api.Attr, api.RDN, api.RDN) {
		list := append(make([]api.Attr, 0, 9), api.Attr{Name: "cn", Values: append(make([]string, 0, 9), "a")}, api.Attr{Name: "objectClass", Values: append(make([]string, 0, 9), "person")}, api.Attr{Name: "sn", Values: append(make([]string, 0, 9), "x")})
		return list, append(make(api.RDN, 0, 9), api.AVA{Type: "cn", Value: "a"}), append(make(api.RDN, 0, 9), api.AVA{Type: "cn", Value: "b"})
	}
	list, was, now := room()
	first, _ := check.Renamed(s, list, was, now, true)
	second, _ := check.Renamed(s, list, was, now, false)
	third, _ := check.Renamed(s, list, was, was, true)
	is(t, "Fits", check.Fits(s, was, list), api.Success)
	is(t, "Changes", check.Changes(s, list, first), api.Success)
	fresh, freshWas, freshNow := room()
	is(t, "the attributes", reflect.DeepEqual(whole(list), whole(fresh)), true)
	is(t, "what was", reflect.DeepEqual(was[:9], freshWas[:9]), true)
	is(t, "what is now", reflect.DeepEqual(now[:9], freshNow[:9]), true)
	for _, a := range list {
		a.Values[0] = "spoiled"
	}
	was[0].Value, now[0].Value = "spoiled", "spoiled"
	is(t, "with drop", told(first), `cn: ["b"]; objectClass: ["person"]; sn: ["x"]`)
	is(t, "without", told(second), `cn: ["a" "b"]; objectClass: ["person"]; sn: ["x"]`)
	is(t, "to the same", told(third), `cn: ["a"]; objectClass: ["person"]; sn: ["x"]`)
}

// whole answers attributes with all their spare room.
func whole(list []api.Attr) []api.Attr {
	var out []api.Attr
	for _, a := range list[:cap(list)] {
		out = append(out, api.Attr{Name: a.Name, Values: a.Values[:cap(a.Values)]})
	}
	return out
}

// P1: schemas that may not be, attributes that aren't in form, RDNs of all sorts: every call ends, and answers the same
// again.
func TestStrange(t *testing.T) {
	huge := strings.Repeat("a", 1<<16)
	attr := func(name string, values ...string) api.Attr { return api.Attr{Name: name, Values: values} }
	for _, s := range []api.Schema{
		schema.Core(), {}, {Types: make([]api.Type, 200), Classes: make([]api.Class, 200)},
		{Types: []api.Type{{Name: "cn", Syntax: 99}, {Name: "objectClass", Syntax: api.Text, Single: true}}, Classes: []api.Class{{Name: "x", Sup: "x", Kind: 1, Must: []string{"no", ""}}, {Name: "x", Sup: "y", Kind: 1}}},
	} {
		for _, list := range [][]api.Attr{nil, make([]api.Attr, 3), {attr("objectClass")}, {attr("objectClass", "person", "PERSON", "person"), attr("cn"), attr("sn", "\xff")}, {attr("sn", "a"), attr("cn", "a"), attr("CN", "a"), attr("objectClass", "x")}, {attr(huge, huge), attr("cn", huge, huge)}} {
			for _, was := range []api.RDN{nil, rdn("cn=a"), rdn("=+="), rdn("cn=a+cn=a+CN=A"), {{Type: huge, Value: huge}}, {{Type: "\xff", Value: "\xff"}}, make(api.RDN, 300)} {
				for _, now := range []api.RDN{nil, rdn("cn=a"), rdn("cn=b+cn=B"), {{Type: huge, Value: huge}}, make(api.RDN, 300)} {
					ask := func() string {
						keep := outcome(check.Renamed(s, list, was, now, false))
						drop := outcome(check.Renamed(s, list, was, now, true))
						return fmt.Sprint(keep, drop, check.Fits(s, was, list), check.Changes(s, list, nil))
					}
					is(t, "again", ask() == ask(), true)
				}
			}
		}
	}
}
