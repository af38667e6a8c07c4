package tree_test

import (
	"fmt"
	"math"
	"math/rand"
	"strings"
	"testing"

	"castellan/api"
	"castellan/tree"
)

// someRDN answers one of few RDNs, spelt in one of several ways.
func someRDN(r *rand.Rand) api.RDN {
	value := []string{"a", "A", " a", "a b", "A  b", "b", "a!", "a,", "a+", "", "\x00", "c"}[r.Intn(12)]
	kind := []string{"cn", "CN", "ou"}[min(r.Intn(4), 2)]
	if r.Intn(8) > 0 {
		return api.RDN{{Type: kind, Value: value}}
	}
	rdn := api.RDN{{Type: kind, Value: value}, {Type: "x", Value: "a"}}
	if r.Intn(2) == 0 {
		rdn[0], rdn[1] = rdn[1], rdn[0]
	}
	return rdn
}

// turned answers a name that is often the same, spelt in another way.
func turned(r *rand.Rand, d api.DN) api.DN {
	var out api.DN
	for _, rdn := range d {
		var list api.RDN
		for _, a := range rdn {
			if r.Intn(4) == 0 {
				a.Type = strings.ToUpper(a.Type)
			}
			if r.Intn(4) == 0 && len(a.Value) < 100 {
				a.Value = strings.ToUpper(a.Value) + " "
			}
			list = append(list, a)
		}
		out = append(out, list)
	}
	return out
}

// someName answers a name by chance: mostly that of an entry, or of one beneath an entry.
func someName(r *rand.Rand, l *list) api.DN {
	base := l.suffix
	if len(l.rows) > 0 && r.Intn(20) > 0 {
		base = l.rows[r.Intn(len(l.rows))].name
	}
	d := turned(r, base)
	for range []int{0, 0, 1, 1, 1, 1, 2, 3}[r.Intn(8)] {
		d = append(api.DN{someRDN(r)}, d...)
	}
	switch r.Intn(60) {
	case 0:
		return d[:r.Intn(len(d))]
	case 1:
		return d[1:]
	case 2:
		d[r.Intn(len(d))] = nil
	case 3:
		d[0] = append(d[0], d[0][0])
	case 4:
		return append(api.DN{{{Type: "cn", Value: strings.Repeat("b", r.Intn(5000))}}}, d...)
	}
	return d
}

// someUpdate answers an update by chance.
func someUpdate(r *rand.Rand, l *list) api.Update {
	u := api.Update{Kind: []int{1, 1, 1, 1, 2, 3, 4, 4, 4}[r.Intn(9)], DN: someName(r, l), To: someName(r, l)}
	if u.Kind != api.Added && len(l.rows) > 0 && r.Intn(4) > 0 {
		u.DN = turned(r, l.rows[r.Intn(len(l.rows))].name)
	}
	if r.Intn(100) == 0 {
		u.Kind = []int{0, -1, 5, math.MaxInt}[r.Intn(4)]
	}
	if r.Intn(2) == 0 {
		u.Attrs = attr("n", fmt.Sprint(r.Intn(100)))
	}
	return u
}

// P16.1 to P16.4: updates by chance, of trees whose suffixes are short, of several RDNs, almost too deep, or almost too
// long: all is as a list of entries tells it.
func TestSome(t *testing.T) {
	r := rand.New(rand.NewSource(2))
	count := map[string]int{}
	suffixes := []api.DN{name("dc=z"), name("ou=A  b+cn=c,dc=z"), deep(29), name("dc=z"), long(4060)}
	for i := range 100 {
		l := &list{suffix: suffixes[i%len(suffixes)]}
		x := empty(t, l.suffix)
		for range 40 {
			u := someUpdate(r, l)
			want := l.able(u)
			does(t, x, u, want)
			count[fmt.Sprint(u.Kind, " ", want)]++
			if want == api.Success {
				l.do(u)
			}
			if r.Intn(20) == 0 {
				asList(t, x.View, l, u.DN, u.To, someName(r, l))
			}
		}
		asList(t, x.View, l)
		if t.Failed() {
			t.FailNow()
		}
	}
	for _, what := range []string{"1 0", "1 32", "1 34", "1 68", "2 0", "2 32", "2 66", "3 0", "3 32", "4 0", "4 32", "4 34", "4 53", "4 68"} {
		if count[what] < 30 {
			t.Errorf("too few of the kind and code %s: %v", what, count)
		}
	}
}

// P16.4: Scope 2 of the suffix's entry is all entries, and Scope 1 of each has each other one once; in a tree of many.
func TestScopesTogether(t *testing.T) {
	r := rand.New(rand.NewSource(3))
	x := grown(t, "dc=z")
	names := []api.DN{name("dc=z")}
	for x.Len() < 3000 {
		d := append(api.DN{{{Type: "cn", Value: fmt.Sprint(r.Intn(50))}}}, names[r.Intn(len(names))]...)
		if x.Do(api.Update{Kind: api.Added, DN: d}) == api.Success {
			names = append(names, d)
		}
	}
	seen := map[int]int{}
	for _, id := range x.Scope(1, 2) {
		for _, kid := range x.Scope(id, 1) {
			seen[kid]++
		}
		is(t, "Kids", x.Kids(id), len(x.Scope(id, 1)))
	}
	is(t, "all", len(x.Scope(1, 2)), 3000)
	is(t, "each but the suffix's", len(seen), 2999)
	for id, times := range seen {
		is(t, fmt.Sprint("times of ", id), times, 1)
	}
	is(t, "the suffix's", seen[1], 0)
	// Each is found, and told as it is.
	for i, d := range names {
		is(t, "Find", x.Find(d), i+1)
		got, _ := x.Entry(i + 1)
		is(t, "Entry", text(got), text(d))
	}
}

// P1: whatever is handed in, every call ends, and none panics.
func TestStrange(t *testing.T) {
	huge := strings.Repeat("x", 1<<20)
	many := make(api.DN, 1<<16)
	numbers := []int{math.MinInt, -1, 0, 1, 2, 3, 1 << 31, 1 << 32, math.MaxInt}
	names := []api.DN{nil, {}, {nil}, {{}}, many, {make(api.RDN, 1<<16)}, {{{Type: huge, Value: huge}}}, {{{Type: "cn", Value: huge}}}, name("dc=z"), name("cn=a,dc=z"), {{{Type: "cn", Value: "\xff\x00"}}, {{Type: "dc", Value: "z"}}},
		append(api.DN{{{Type: "cn", Value: huge}}}, name("dc=z")...), append(api.DN{nil}, name("dc=z")...), append(name("dc=z"), nil)}
	for _, suffix := range names {
		x, e := tree.New(suffix)
		is(t, "a tree", x != nil, e == api.OK)
		if x == nil {
			continue
		}
		for range 2 {
			for _, d := range names {
				id := x.Find(d)
				is(t, "Find, and whether it is there", id > 0, len(x.Scope(id, 0)) == 1)
				x.Matched(d)
				for _, to := range names {
					for _, kind := range numbers {
						u := api.Update{Kind: kind, DN: d, To: to, Attrs: []api.Attr{{Name: huge, Values: []string{huge}}, {}}}
						is(t, "Able, and Do", x.Able(u), x.Do(u))
					}
				}
			}
			for _, id := range numbers {
				for _, scope := range numbers {
					x.Scope(id, scope)
				}
				x.Entry(id)
				x.Kids(id)
			}
		}
	}
}
