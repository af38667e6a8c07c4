package scan_test

import (
	"fmt"
	"math"
	"slices"
	"strconv"
	"strings"
	"testing"

	"castellan/api"
	"castellan/scan"
	"castellan/schema"
	"castellan/tree"
)

// strange answers names that can't be printed.
func strange() map[string]api.DN {
	many := api.DN{}
	for range api.MaxRdns + 1 {
		many = append(many, api.RDN{{Type: "cn", Value: "a"}})
	}
	return map[string]api.DN{
		"too many RDNs":         many,
		"an empty RDN":          {{}},
		"an empty RDN above it": {{{Type: "cn", Value: "a"}}, nil, {{Type: "dc", Value: "z"}}},
		"an empty RDN ahead":    {nil, {{Type: "dc", Value: "z"}}},
		"no type":               {{{Type: "c n", Value: "a"}}, {{Type: "dc", Value: "z"}}},
		"a type twice":          {{{Type: "cn", Value: "a"}, {Type: "CN", Value: "b"}}, {{Type: "dc", Value: "z"}}},
		"a name too long":       {{{Type: "cn", Value: strings.Repeat("a", api.MaxText)}}, {{Type: "dc", Value: "z"}}},
	}
}

// sample answers entries on two levels beneath the suffix's own.
func sample(t *testing.T) *tree.View {
	t.Helper()
	return grown(t, "dc=z; dc:z", "ou=y,dc=z; ou:y; sn:q", "ou=X,dc=z; ou:X; sn:p", "cn=b,ou=x,dc=z; cn:b; sn:p|r", "cn=A,ou=x,dc=z; cn:A; sn:p; createdAt:5", "cn=c,ou=y,dc=z; cn:c; userPassword:p").View
}

// P24.3: which entries are gone through, and in which order they are found.
func TestScopes(t *testing.T) {
	v, b := sample(t), open(t)
	for _, c := range []struct {
		base  string
		scope int
		want  string
	}{
		{"dc=z", 0, "dc=z"}, {"OU=x,DC=Z", 0, "ou=X,dc=z"}, {"CN=a,ou=x,dc=z", 0, "cn=A,ou=x,dc=z"},
		{"dc=z", 1, "ou=X,dc=z; ou=y,dc=z"}, {"ou=x,dc=z", 1, "cn=A,ou=x,dc=z; cn=b,ou=x,dc=z"}, {"cn=b,ou=x,dc=z", 1, ""},
		{"dc=z", 2, "dc=z; ou=X,dc=z; cn=A,ou=x,dc=z; cn=b,ou=x,dc=z; ou=y,dc=z; cn=c,ou=y,dc=z"}, {"ou=x,dc=z", 2, "ou=X,dc=z; cn=A,ou=x,dc=z; cn=b,ou=x,dc=z"}, {"cn=c,ou=Y,dc=z", 2, "cn=c,ou=y,dc=z"},
	} {
		found, code, near := scan.Search(v, schema.Core(), b, scan.Ask{Base: name(c.base), Scope: c.scope, Filter: filter("(&)")})
		what := fmt.Sprint(c.base, " scope ", c.scope)
		is(t, what, names(found), c.want)
		is(t, what+": code", code, api.Success)
		is(t, what+": near", len(near), 0)
	}
}

// P24.3: what is wrong, the first of it; nothing is found then, and nothing is told of a name but by NoSuchObject.
func TestErrors(t *testing.T) {
	v, b := sample(t), open(t)
	for _, c := range []struct {
		a    scan.Ask
		want string
	}{
		{scan.Ask{Base: name("dc=z"), Scope: -1}, "2 - []"}, {scan.Ask{Base: name("dc=z"), Scope: 3}, "2 - []"}, {scan.Ask{Base: name("dc=z"), Scope: math.MaxInt}, "2 - []"}, {scan.Ask{Base: name("dc=z"), Scope: math.MinInt}, "2 - []"}, {scan.Ask{Base: name("dc=z"), Scope: 256}, "2 - []"},
		{scan.Ask{Base: name("dc=z"), Size: -1}, "2 - []"}, {scan.Ask{Base: name("dc=z"), Size: math.MinInt}, "2 - []"}, {scan.Ask{Base: name("dc=z"), Time: -1}, "2 - []"}, {scan.Ask{Base: name("dc=z"), Time: math.MinInt}, "2 - []"},
		{scan.Ask{Base: name("cn=q,dc=z"), Scope: 3}, "2 - []"}, {scan.Ask{Base: name("cn=q,dc=z"), Size: -1}, "2 - []"}, {scan.Ask{Base: name("cn=q,dc=z"), Time: -1}, "2 - []"},
		{scan.Ask{Base: name("cn=q,OU=x,dc=z")}, "32 ou=X,dc=z []"}, {scan.Ask{Base: name("cn=q,cn=p,dc=z"), Scope: 2, Size: 1, Time: 1}, "32 dc=z []"}, {scan.Ask{Base: name("dc=y")}, "32 - []"}, {scan.Ask{}, "32 - []"}, {scan.Ask{Scope: 2}, "32 - []"},
	} {
		c.a.Filter = filter("(&)")
		is(t, fmt.Sprintf("%+v", c.a), searched(v, b, c.a), c.want)
		is(t, fmt.Sprintf("%+v by a list", c.a), searched(v, b, c.a, []int{1, 2, 3}), c.want)
	}
	for what, d := range strange() {
		is(t, what, searched(v, b, scan.Ask{Base: d, Filter: filter("(&)")}), "34 - []")
		is(t, what+", who may all", searched(v, b, scan.Ask{Who: name("cn=root"), Base: d, Scope: 2}), "34 - []")
		is(t, what+", and a scope", searched(v, b, scan.Ask{Base: d, Scope: 4}), "2 - []")
		is(t, what+", and a size", searched(v, b, scan.Ask{Base: d, Size: -1}), "2 - []")
		is(t, what+", and a time", searched(v, b, scan.Ask{Base: d, Time: -1}), "2 - []")
		is(t, what+", of nothing", searched(nil, nil, scan.Ask{Base: d}), "34 - []")
		is(t, what+", who", searched(v, b, scan.Ask{Who: d, Base: name("dc=z")}), "32 - []")
	}
	a := scan.Ask{Who: name("cn=root"), Base: name("dc=z"), Filter: filter("(&)")}
	is(t, "no view", searched(nil, b, a), "32 - []")
	is(t, "no book", searched(v, nil, a), "32 - []")
	hidden := book(t, api.Rule{Where: "ou=x,dc=z", Rights: api.See}, api.Rule{Rights: 15, Allow: true})
	is(t, "a base that isn't seen", searched(v, hidden, scan.Ask{Base: name("cn=a,ou=x,dc=z"), Filter: filter("(&)")}), "32 dc=z []")
}

// P24.3: an entry fits, if somebody may See it, and the filter is True of what they may Compare; of what is found they
// get what they may Read.
func TestRights(t *testing.T) {
	v := sample(t)
	all := api.Rule{Rights: 15, Allow: true}
	a := scan.Ask{Base: name("dc=z"), Scope: 2, Filter: filter("(sn=P)")}
	for _, c := range []struct {
		what string
		rule api.Rule
		want string
	}{
		{"all", all, "0 - [ou=X,dc=z ou:X sn:p; cn=A,ou=x,dc=z cn:A sn:p; cn=b,ou=x,dc=z cn:b sn:p|r]"},
		{"one isn't seen", api.Rule{Where: "cn=a,ou=x,dc=z", Rights: api.See}, "0 - [ou=X,dc=z ou:X sn:p; cn=b,ou=x,dc=z cn:b sn:p|r]"},
		{"some aren't seen", api.Rule{Where: "ou=x,dc=z", Rights: api.See}, "0 - []"},
		{"an attribute isn't seen", api.Rule{Attr: "sn", Rights: api.See}, "0 - [ou=X,dc=z ou:X sn:p; cn=A,ou=x,dc=z cn:A sn:p; cn=b,ou=x,dc=z cn:b sn:p|r]"},
		{"no sn may be compared", api.Rule{Attr: "sn", Rights: api.Compare}, "0 - []"},
		{"one's sn may not be compared", api.Rule{Attr: "sn", Where: "ou=x,dc=z", Rights: api.Compare | api.Write}, "0 - []"},
		{"another may not be compared", api.Rule{Attr: "cn", Rights: api.Compare}, "0 - [ou=X,dc=z ou:X sn:p; cn=A,ou=x,dc=z cn:A sn:p; cn=b,ou=x,dc=z cn:b sn:p|r]"},
		{"no sn may be read", api.Rule{Attr: "sn", Rights: api.Read}, "0 - [ou=X,dc=z ou:X; cn=A,ou=x,dc=z cn:A; cn=b,ou=x,dc=z cn:b]"},
		{"nothing may be read", api.Rule{Rights: api.Read}, "0 - [ou=X,dc=z ; cn=A,ou=x,dc=z ; cn=b,ou=x,dc=z ]"},
		{"one may not be read", api.Rule{Where: "cn=b,ou=x,dc=z", Rights: api.Read}, "0 - [ou=X,dc=z ou:X sn:p; cn=A,ou=x,dc=z cn:A sn:p; cn=b,ou=x,dc=z ]"},
		{"nothing may be written", api.Rule{Rights: api.Write}, "0 - [ou=X,dc=z ou:X sn:p; cn=A,ou=x,dc=z cn:A sn:p; cn=b,ou=x,dc=z cn:b sn:p|r]"},
	} {
		b := book(t, c.rule, all)
		is(t, c.what, searched(v, b, a), c.want)
		a.Who = name("cn=root")
		is(t, c.what+", who may all", searched(v, b, a), "0 - [ou=X,dc=z ou:X sn:p; cn=A,ou=x,dc=z cn:A sn:p; cn=b,ou=x,dc=z cn:b sn:p|r]")
		a.Who = nil
	}
	// A filter that denies: what may not be compared isn't there, and what is neither doesn't fit.
	b := book(t, api.Rule{Attr: "sn", Where: "ou=x,dc=z", Rights: api.Compare}, all)
	a.Filter, a.Names = filter("(!(sn=*))"), []string{"1.1"}
	is(t, "none that is seen", searched(v, b, a), "0 - [dc=z ; ou=X,dc=z ; cn=A,ou=x,dc=z ; cn=b,ou=x,dc=z ; cn=c,ou=y,dc=z ]")
	a.Filter = filter("(!(none=*))")
	is(t, "neither", searched(v, b, a), "0 - []")
	self := book(t, api.Rule{Who: api.Self, Rights: 15, Allow: true}, api.Rule{Attr: "sn", Rights: api.Read}, api.Rule{Rights: 7, Allow: true})
	a = scan.Ask{Who: name("CN=a,OU=x,dc=z"), Base: name("ou=x,dc=z"), Scope: 1, Filter: filter("(sn=p)"), Names: []string{"sn"}}
	is(t, "oneself", searched(v, self, a), "0 - [cn=A,ou=x,dc=z sn:p; cn=b,ou=x,dc=z ]")
}

// P24.3: what is found has what is picked of its attributes.
func TestPicked(t *testing.T) {
	v, b := sample(t), open(t)
	a := scan.Ask{Base: name("cn=a,ou=x,dc=z"), Filter: filter("(createdAt>=5)")}
	is(t, "without names", searched(v, b, a), "0 - [cn=A,ou=x,dc=z cn:A sn:p]")
	a.Names = []string{"+", "SN"}
	is(t, "names", searched(v, b, a), "0 - [cn=A,ou=x,dc=z createdAt:5 sn:p]")
	a.TypesOnly = true
	is(t, "types", searched(v, b, a), "0 - [cn=A,ou=x,dc=z createdAt: sn:]")
	a.Names = []string{"none"}
	is(t, "none", searched(v, b, a), "0 - [cn=A,ou=x,dc=z ]")
}

// P24.3: at most Size are found; whether there is one more that fits makes the code.
func TestSize(t *testing.T) {
	v, b := sample(t), open(t)
	all := []string{"ou=X,dc=z", "cn=A,ou=x,dc=z", "cn=b,ou=x,dc=z"}
	for _, size := range []int{0, 1, 2, 3, 4, 100, math.MaxInt} {
		found, code, near := scan.Search(v, schema.Core(), b, scan.Ask{Base: name("dc=z"), Scope: 2, Filter: filter("(sn=p)"), Size: size})
		count, want := 3, api.Success
		if size == 1 || size == 2 {
			count, want = size, api.SizeLimit
		}
		is(t, fmt.Sprint("size ", size), names(found), strings.Join(all[:count], "; "))
		is(t, fmt.Sprint("size ", size, ": code"), code, want)
		is(t, fmt.Sprint("size ", size, ": near"), len(near), 0)
	}
	is(t, "none of none", searched(v, b, scan.Ask{Base: name("dc=z"), Scope: 2, Filter: filter("(sn=none)"), Size: 1}), "0 - []")
	// Behind the last that fits there are others, which don't.
	is(t, "just one", searched(v, b, scan.Ask{Base: name("dc=z"), Scope: 2, Filter: filter("(dc=z)"), Size: 1}), "0 - [dc=z dc:z]")
	// What may not be seen isn't counted.
	hidden := book(t, api.Rule{Where: "cn=b,ou=x,dc=z", Rights: api.See}, api.Rule{Rights: 15, Allow: true})
	is(t, "one more that is hidden", searched(v, hidden, scan.Ask{Base: name("dc=z"), Scope: 2, Filter: filter("(sn=p)"), Names: []string{"-"}, Size: 2}), "0 - [ou=X,dc=z ; cn=A,ou=x,dc=z ]")
}

// wide answers a tree of that many entries, of which all but the first lie just beneath it, with a cn that is where they
// stand in the order (from 1 on).
func wide(t *testing.T, count int) *tree.View {
	t.Helper()
	x := grown(t, "dc=z; cn:1")
	for i := 2; i <= count; i++ {
		s := strconv.Itoa(i)
		x.Do(api.Update{Kind: api.Added, DN: name(fmt.Sprintf("cn=%05d,dc=z", i)), Attrs: attrs(t, "cn:"+s)})
	}
	is(t, "how many", x.Len(), count)
	return x.View
}

// P24.3: no more than Time times Speed entries are gone through, whether they fit or not.
func TestTime(t *testing.T) {
	b := open(t)
	for _, count := range []int{99, 100, 101, 199, 200, 201, 250} {
		v := wide(t, count)
		for _, limit := range []int{0, 1, 2, 3, 41, math.MaxInt, math.MaxInt/100 + 1, 1 << 32, math.MaxInt / 64, 1 << 62} {
			for scope := 1; scope <= 2; scope++ {
				gone := count - 2 + scope
				end, want := gone, api.Success
				if limit > 0 && limit < 9 && limit*100 < gone {
					end, want = limit*100, api.TimeLimit
				}
				what := fmt.Sprint(count, " entries, scope ", scope, ", time ", limit)
				found, code, near := scan.Search(v, schema.Core(), b, scan.Ask{Base: name("dc=z"), Scope: scope, Filter: filter("(cn=*)"), Time: limit})
				is(t, what, fmt.Sprint(len(found), code, len(near)), fmt.Sprint(end, want, 0))
				_, code, _ = scan.Search(v, schema.Core(), b, scan.Ask{Base: name("dc=z"), Scope: scope, Filter: filter("(sn=*)"), Time: limit})
				is(t, what+", none that fits", code, want)
				_, code, _ = scan.Search(v, schema.Core(), b, scan.Ask{Base: name("dc=z"), Scope: scope, Filter: filter("(cn=*)"), Time: limit}, nil)
				is(t, what+", none in a list", code, want)
			}
		}
	}
	// All are gone through, also those that may not be seen.
	hidden := book(t, api.Rule{Who: api.Anybody, Where: "cn=00002,dc=z", Rights: 15}, api.Rule{Rights: 15, Allow: true})
	found, code, _ := scan.Search(wide(t, 101), schema.Core(), hidden, scan.Ask{Base: name("dc=z"), Scope: 2, Filter: filter("(cn=*)"), Time: 1})
	is(t, "hidden ones", fmt.Sprint(len(found), " ", code), "99 3")
}

// P24.3: what of the two limits is met first.
func TestLimits(t *testing.T) {
	v, b := wide(t, 230), open(t)
	all := filter("(cn=*)")
	for _, c := range []struct {
		f          api.Filter
		size, time int
		want       string
	}{
		{all, 99, 1, "99 4"}, {all, 100, 1, "100 3"}, {all, 101, 1, "100 3"}, {all, 1, 1, "1 4"}, {all, 199, 2, "199 4"}, {all, 200, 2, "200 3"}, {all, 229, 3, "229 4"}, {all, 230, 3, "230 0"}, {all, 230, 2, "200 3"},
		{filter("(|(cn=1)(cn=100)(cn=101))"), 1, 1, "1 4"}, {filter("(|(cn=1)(cn=101))"), 1, 1, "1 3"}, {filter("(|(cn=1)(cn=100))"), 1, 1, "1 4"}, {filter("(|(cn=1)(cn=100))"), 2, 1, "2 3"}, {filter("(|(cn=1)(cn=101))"), 1, 2, "1 4"}, {filter("(cn=101)"), 1, 1, "0 3"}, {filter("(cn=101)"), 1, 2, "1 3"}, {filter("(cn=101)"), 1, 3, "1 0"},
	} {
		found, code, near := scan.Search(v, schema.Core(), b, scan.Ask{Base: name("dc=z"), Scope: 2, Filter: c.f, Size: c.size, Time: c.time})
		is(t, fmt.Sprintf("%+v", c), fmt.Sprint(len(found), " ", code), c.want)
		is(t, fmt.Sprintf("%+v: near", c), len(near), 0)
	}
}

// P24.3: with lists only those fit that are in each of them.
func TestLists(t *testing.T) {
	v, b := sample(t), open(t)
	a := scan.Ask{Base: name("dc=z"), Scope: 2, Filter: filter("(&)"), Names: []string{"-"}}
	order := []int{1, 3, 5, 4, 2, 6}
	for _, only := range [][][]int{
		{}, {nil}, {{}}, {{1, 2, 3, 4, 5, 6}}, {{6, 5, 1}}, {{5, 5, 5, 2}}, {{0, -1, 7, math.MaxInt, math.MinInt}}, {{3, 9, 4}},
		{{1, 2, 3}, {3, 2, 5}}, {{1, 2, 3}, {}}, {nil, {1, 2, 3}}, {{1, 1, 2}, {2, 2, 3}, {2, 1}}, {{1, 1}, {2}}, {{1}, {2}, {1, 2}}, {{1, 2}, {1, 2}, {1, 2}, {2, 4}}, {{2}, {1, 2}, {2, 1, 1}}, {{1, 2, 1, 1}, {3, 3, 3, 1}, {3, 4}},
	} {
		want := slices.DeleteFunc(slices.Clone(order), func(id int) bool {
			return slices.ContainsFunc(only, func(list []int) bool { return !slices.Contains(list, id) })
		})
		var wanted []string
		for _, id := range want {
			d, _ := v.Entry(id)
			wanted = append(wanted, text(d)+" ")
		}
		is(t, fmt.Sprint(only), searched(v, b, a, only...), "0 - ["+strings.Join(wanted, "; ")+"]")
	}
	a.Size, a.Filter = 1, filter("(sn=p)")
	is(t, "a size", searched(v, b, a, []int{4, 5}), "4 - [cn=A,ou=x,dc=z ]")
	is(t, "a size, one in the list", searched(v, b, a, []int{4, 6}), "0 - [cn=b,ou=x,dc=z ]")
	is(t, "a base that isn't in the list", searched(v, b, scan.Ask{Base: name("dc=z"), Filter: filter("(&)")}, []int{2}), "0 - []")
}

// The chapter's example.
func TestExample(t *testing.T) {
	is(t, "size 1 of two", searched(grown(t, "dc=z; cn:a", "cn=b,dc=z; cn:b").View, open(t), scan.Ask{Base: name("dc=z"), Scope: 2, Filter: filter("(cn=*)"), Size: 1}), "4 - [dc=z cn:a]")
}
