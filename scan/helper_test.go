package scan_test

import (
	"fmt"
	"maps"
	"math/rand"
	"slices"
	"strings"
	"testing"

	"castellan/acl"
	"castellan/api"
	"castellan/dn"
	"castellan/entry"
	"castellan/filt"
	"castellan/scan"
	"castellan/schema"
	"castellan/tree"
	"castellan/truth"
)

// is: a test fails, if something is another thing than was wanted.
func is[T comparable](t *testing.T, what string, got, want T) {
	t.Helper()
	if got != want {
		t.Errorf("%.2000s: %.1500s, wanted %.1500s", what, fmt.Sprint(got), fmt.Sprint(want))
	}
}

// name answers the name of a text.
func name(text string) api.DN {
	d, e := dn.Parse(text)
	if e != api.OK {
		panic(text)
	}
	return d
}

// text answers a name as a text; none as -.
func text(d api.DN) string {
	s, e := dn.Print(d)
	switch {
	case e != api.OK:
		return fmt.Sprint(e)
	case len(d) == 0:
		return "-"
	}
	return s
}

// filter answers the filter of a text.
func filter(text string) api.Filter {
	f, e := filt.Parse(text)
	if e != api.OK {
		panic(text)
	}
	return f
}

// attrs answers attributes in form, told as lines: a name, a colon, and values with | between two.
func attrs(t *testing.T, lines ...string) []api.Attr {
	t.Helper()
	var list []api.Attr
	for _, line := range lines {
		name, values, _ := strings.Cut(line, ":")
		list = append(list, api.Attr{Name: name, Values: strings.Split(values, "|")})
	}
	out, code := entry.Make(schema.Core(), list...)
	if code != api.Success {
		t.Fatalf("Make of %q: %d", lines, code)
	}
	return out
}

// grown answers a tree of the suffix that is named first, with entries of these names, each with its attributes behind it,
// with a ; and a blank between two.
func grown(t *testing.T, entries ...string) *tree.Tree {
	t.Helper()
	var x *tree.Tree
	for _, line := range entries {
		words := strings.Split(line, "; ")
		if x == nil {
			x, _ = tree.New(name(words[0]))
		}
		if code := x.Do(api.Update{Kind: api.Added, DN: name(words[0]), Attrs: attrs(t, words[1:]...)}); code != api.Success {
			t.Fatalf("%s: %d", line, code)
		}
	}
	return x
}

// book answers a book of rules, of the schema Core, with cn=root as the one who may all.
func book(t *testing.T, rules ...api.Rule) *acl.Book {
	t.Helper()
	b, e := acl.New(schema.Core(), name("cn=root"), rules...)
	if e != api.OK {
		t.Fatalf("New of %+v: %v", rules, e)
	}
	return b
}

// open answers a book by which all may all.
func open(t *testing.T) *acl.Book { return book(t, api.Rule{Rights: 15, Allow: true}) }

// told answers attributes as a text.
func told(list []api.Attr) string {
	var out []string
	for _, a := range list {
		out = append(out, fmt.Sprint(a.Name, ":", strings.Join(a.Values, "|")))
	}
	return strings.Join(out, " ")
}

// names answers the names of what is found as a text.
func names(found []scan.Found) string {
	var out []string
	for _, f := range found {
		out = append(out, text(f.DN))
	}
	return strings.Join(out, "; ")
}

// outcome answers what Search tells as a text.
func outcome(found []scan.Found, code int, near api.DN) string {
	var out []string
	for _, f := range found {
		out = append(out, text(f.DN)+" "+told(f.Attrs))
	}
	return fmt.Sprint(code, " ", text(near), " [", strings.Join(out, "; "), "]")
}

// searched is Search's outcome, by the schema Core.
func searched(v *tree.View, b *acl.Book, a scan.Ask, only ...[]int) string {
	return outcome(scan.Search(v, schema.Core(), b, a, only...))
}

// small is Fold in another way.
func small(text string) string {
	out := []byte(text)
	for i, c := range out {
		if c >= 'A' && c <= 'Z' {
			out[i] = c + 32
		}
	}
	return string(out)
}

// row is an entry of a list.
type row struct {
	id    int
	name  api.DN
	attrs []api.Attr
}

// rows answers the entries of a view as a list, in order.
func rows(v *tree.View) []row {
	var out []row
	for _, id := range v.Scope(v.Find(v.Suffix()), 2) {
		d, list := v.Entry(id)
		out = append(out, row{id, d, list})
	}
	return out
}

// same tells whether two names are the same: each lies under the other.
func same(a, b api.DN) bool { return dn.Under(a, b) && dn.Under(b, a) }

// plainVisible is Visible in another way: of all that somebody may see, the one of the most RDNs under which d lies.
func plainVisible(list []row, b *acl.Book, who, d api.DN) (int, api.DN) {
	var best row
	for _, r := range list {
		if dn.Under(d, r.name) && b.May(who, r.name, "", api.See) && len(r.name) > len(best.name) {
			best = r
		}
	}
	if best.id > 0 && same(best.name, d) {
		return best.id, nil
	}
	return 0, best.name
}

// plainPick is Pick in another way: name by name, and then in order.
func plainPick(list []api.Attr, names []string, typesOnly bool) []api.Attr {
	const opers = " createdat changedat pwdfailure pwdlocked pwdchanged "
	picked := map[int]bool{}
	if len(names) == 0 {
		names = []string{"*"}
	}
	for _, name := range names {
		for i, a := range list {
			oper := strings.Contains(opers, " "+small(a.Name)+" ")
			if small(name) == small(a.Name) || name == "*" && !oper || name == "+" && oper {
				picked[i] = true
			}
		}
	}
	var out []api.Attr
	for i, a := range list {
		if !picked[i] {
			continue
		}
		if typesOnly {
			a.Values = nil
		}
		out = append(out, a)
	}
	return out
}

// inScope tells whether an entry of a name is in the scope of another one.
func inScope(d, base api.DN, scope int) bool {
	deep := len(d) - len(base)
	return dn.Under(d, base) && (scope == 2 || scope == deep)
}

// plainSearch is Search in another way: all that fit are told first, and then what the limits leave.
func plainSearch(list []row, b *acl.Book, a scan.Ask, only ...[]int) ([]scan.Found, int, api.DN) {
	if a.Scope < 0 || a.Scope > 2 || a.Size < 0 || a.Time < 0 {
		return nil, 2, nil
	}
	if !same(a.Base, a.Base) {
		return nil, 34, nil
	}
	base, near := plainVisible(list, b, a.Who, a.Base)
	if base == 0 {
		return nil, 32, near
	}
	var places []int
	var found []scan.Found
	gone := 0
	for _, r := range list {
		if !inScope(r.name, a.Base, a.Scope) {
			continue
		}
		gone++
		listed := !slices.ContainsFunc(only, func(ids []int) bool { return !slices.Contains(ids, r.id) })
		held := b.Seen(a.Who, r.name, r.attrs, api.Compare)
		if listed && b.May(a.Who, r.name, "", api.See) && truth.Of(schema.Core(), a.Filter, held) == 1 {
			places = append(places, gone)
			found = append(found, scan.Found{DN: r.name, Attrs: plainPick(b.Seen(a.Who, r.name, r.attrs, api.Read), a.Names, a.TypesOnly)})
		}
	}
	sizeEnd, timeEnd := gone+1, gone+1
	if a.Size > 0 && a.Size < len(places) {
		sizeEnd = places[a.Size]
	}
	if a.Time > 0 && a.Time <= gone/100 && a.Time*100 < gone {
		timeEnd = a.Time*100 + 1
	}
	end := min(sizeEnd, timeEnd)
	for len(found) > 0 && places[len(found)-1] >= end {
		found = found[:len(found)-1]
	}
	switch {
	case end > gone:
		return found, 0, nil
	case end == timeEnd:
		return found, 3, nil
	}
	return found, 4, nil
}

// someRDN answers one of few RDNs, spelt in one of several ways.
func someRDN(r *rand.Rand) string {
	return []string{"cn=a", "CN=A", "cn=b", "ou=x", "OU=X", "cn=a+sn=b  c", "SN=b c+cn=A", "cn=c\\,", "ou=y", "cn=d"}[r.Intn(10)]
}

// someLine answers a line of an attribute with few values.
func someLine(r *rand.Rand) string {
	return []string{"cn:a", "cn:b|C", "cn:abc", "sn:x", "sn:a|abcd", "description:abc", "uid:q", "member:cn=A", "userPassword:p", "employeeNumber:7", "employeeNumber:-3", "active:TRUE", "objectClass:top|person", "createdAt:5", "changedAt:9", "pwdFailure:5.0|5.1", "pwdChanged:4"}[r.Intn(17)]
}

// someAttrs answers attributes in form.
func someAttrs(t *testing.T, r *rand.Rand) []api.Attr {
	t.Helper()
	lines := map[string]string{}
	for range r.Intn(7) {
		line := someLine(r)
		lines[strings.Split(line, ":")[0]] = line
	}
	return attrs(t, slices.Sorted(maps.Values(lines))...)
}

// someTree answers a tree that grew by chance to at least so many entries; some of them were moved, others are gone.
func someTree(t *testing.T, r *rand.Rand, least int) *tree.Tree {
	t.Helper()
	x := grown(t, "dc=z; cn:a")
	all := []string{"dc=z"}
	// What stands above an entry's first RDN is often spelt otherwise than the names of those above it.
	some := func() string {
		d := all[r.Intn(len(all))]
		if r.Intn(3) == 0 {
			return strings.ToUpper(d)
		}
		return d
	}
	for x.Len() < least {
		d := someRDN(r) + "," + some()
		u := api.Update{Kind: api.Added, DN: name(d), Attrs: someAttrs(t, r)}
		switch r.Intn(12) {
		case 0:
			u.Kind, u.DN = api.Deleted, name(some())
		case 1:
			u.Kind, u.DN, u.To = api.Moved, name(some()), u.DN
		}
		if len(u.DN) > 6 || len(u.To) > 6 || u.Kind == api.Deleted && len(u.DN) == 1 {
			continue
		}
		if x.Do(u) == api.Success && u.Kind != api.Deleted {
			all = append(all, d)
		}
	}
	return x
}

// someName answers a name: often an entry's, spelt as it is or in another way, or one beneath it, or any other.
func someName(r *rand.Rand, list []row) api.DN {
	d := name("dc=z")
	if len(list) > 0 && r.Intn(8) > 0 {
		d = list[r.Intn(len(list))].name
	}
	s := text(d)
	if r.Intn(3) == 0 {
		s = strings.ToUpper(s)
	}
	switch r.Intn(24) {
	case 0, 1, 2, 3:
		s = someRDN(r) + "," + s
	case 4:
		s = "cn=none,cn=no," + s
	case 5:
		s += ",dc=y"
	case 6:
		return nil
	case 7:
		return append(name(s), api.RDN{})
	}
	return name(s)
}

// someBook answers a book of some rules, most of which allow.
func someBook(t *testing.T, r *rand.Rand, list []row) *acl.Book {
	t.Helper()
	var rules []api.Rule
	where := func() string { return text(list[r.Intn(len(list))].name) }
	if r.Intn(2) == 0 {
		rules = append(rules, api.Rule{Where: where(), Rights: api.See})
	}
	for range r.Intn(5) {
		rule := api.Rule{Who: r.Intn(3), Rights: 1 + r.Intn(15), Allow: r.Intn(2) == 0}
		if r.Intn(2) == 0 {
			rule.Where = where()
		}
		if r.Intn(2) == 0 {
			rule.Attr = []string{"cn", "SN", "userPassword", "createdAt", "description"}[r.Intn(5)]
		}
		rules = append(rules, rule)
	}
	if r.Intn(4) > 0 {
		rules = append(rules, api.Rule{Rights: []int{15, 7, 5, 3}[r.Intn(4)], Allow: true})
	}
	return book(t, rules...)
}

// someFilter answers a filter of few types and values.
func someFilter(r *rand.Rand) api.Filter {
	parts := []string{"(cn=*)", "(cn=A)", "(cn=abc)", "(cn=a*)", "(cn=*bc*)", "(sn=*)", "(sn=abcd)", "(sn>=x)", "(sn<=b)", "(description~=ABC)", "(userPassword=p)", "(employeeNumber>=0)", "(active=TRUE)", "(objectClass=*)", "(createdAt=5)", "(none=a)", "(member=CN=a)", "(employeeNumber=x)", "(&)", "(|)", "(uid=*)"}
	part := func() string { return parts[r.Intn(len(parts))] }
	switch r.Intn(6) {
	case 0:
		return filter("(&" + part() + part() + ")")
	case 1:
		return filter("(|" + part() + part() + ")")
	case 2:
		return filter("(!" + part() + ")")
	case 3:
		return filter("(&)")
	case 4:
		return filter("(|" + part() + "(!(&" + part() + part() + ")))")
	}
	return filter(part())
}

// someAsk answers what may be asked, by somebody, mostly of entries.
func someAsk(r *rand.Rand, list []row) scan.Ask {
	a := scan.Ask{Base: someName(r, list), Scope: []int{0, 1, 1, 2, 2, 2, 2}[r.Intn(7)], Filter: someFilter(r), TypesOnly: r.Intn(4) == 0}
	switch r.Intn(6) {
	case 0:
		a.Who = name("cn=root")
	case 1, 2:
		a.Who = someName(r, list)
	}
	if r.Intn(3) == 0 {
		a.Base = name("dc=z")
	}
	for range r.Intn(4) {
		a.Names = append(a.Names, []string{"*", "+", "cn", "SN", "Createdat", "userpassword", "none", "", "1.1"}[r.Intn(9)])
	}
	if r.Intn(2) == 0 {
		a.Size = r.Intn(6)
	}
	if r.Intn(2) == 0 {
		a.Time = r.Intn(5)
	}
	// Of many entries the limit of time plays a part, too, which begins behind Speed of them.
	if len(list) > api.Speed && r.Intn(4) > 0 {
		a.Base, a.Scope, a.Size, a.Time = name("dc=z"), 2, r.Intn(2)*r.Intn(250), r.Intn(4)
	}
	switch r.Intn(60) {
	case 0:
		a.Scope = []int{-1, 3, 256}[r.Intn(3)]
	case 1:
		a.Size = -1
	case 2:
		a.Time = -1
	}
	return a
}
