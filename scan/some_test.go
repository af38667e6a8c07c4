package scan_test

import (
	"fmt"
	"math"
	"math/rand"
	"strings"
	"testing"

	"castellan/api"
	"castellan/index"
	"castellan/plan"
	"castellan/scan"
	"castellan/schema"
	"castellan/tree"
)

// hunts asks, of trees by chance, so many things by chance each.
func hunts(t *testing.T, seed int64, trees, asks int, do func(r *rand.Rand, v *tree.View, list []row)) {
	t.Helper()
	r := rand.New(rand.NewSource(seed))
	for i := range trees {
		entries := 3 + i%20
		if i%10 == 0 {
			entries = 205
		}
		v := someTree(t, r, entries).View
		list := rows(v)
		for range asks {
			do(r, v, list)
		}
		if t.Failed() {
			t.FailNow()
		}
	}
}

// P24.3: searches by chance are as told in another way.
func TestSome(t *testing.T) {
	count := map[string]int{}
	hunts(t, 243, 100, 40, func(r *rand.Rand, v *tree.View, list []row) {
		b, a := someBook(t, r, list), someAsk(r, list)
		var only [][]int
		for range r.Intn(8) - 5 {
			only = append(only, r.Perm(len(list) + 4)[r.Intn(4):])
		}
		found, code, near := scan.Search(v, schema.Core(), b, a, only...)
		is(t, fmt.Sprintf("%+v of %v", a, only), outcome(found, code, near), outcome(plainSearch(list, b, a, only...)))
		count[fmt.Sprint(code, len(found) > 0)]++
	})
	for what, least := range map[string]int{"0 true": 300, "0 false": 300, "2 false": 50, "32 false": 300, "34 false": 50, "4 true": 100, "3 true": 30, "3 false": 10} {
		if count[what] < least {
			t.Errorf("too few of %s: %v", what, count)
		}
	}
}

// P24.4: with the list that Among tells, of an index that has just the entries of the view, the answer is the same.
func TestAmong(t *testing.T) {
	lists, shorter := 0, 0
	hunts(t, 244, 60, 40, func(r *rand.Rand, v *tree.View, list []row) {
		var types []string
		for _, typ := range schema.Core().Types {
			if r.Intn(3) > 0 {
				types = append(types, typ.Name)
			}
		}
		x, e := index.New(schema.Core(), types...)
		if e != api.OK {
			t.Fatal(e)
		}
		for _, one := range list {
			x.Put(one.id, one.attrs)
		}
		b := someBook(t, r, list)
		for range 4 {
			a := someAsk(r, list)
			ids, ok := plan.Among(x, a.Filter, r.Intn(2*len(list)+1))
			if !ok {
				continue
			}
			lists++
			if len(ids) < len(list) {
				shorter++
			}
			is(t, fmt.Sprintf("%+v by %v", a, ids), searched(v, b, a, ids), searched(v, b, a))
			is(t, fmt.Sprintf("%+v by %v and all", a, ids), searched(v, b, a, ids, x.All()), searched(v, b, a))
		}
	})
	if lists < 1500 || shorter < 1000 {
		t.Errorf("too few: %d lists, %d of them shorter than all", lists, shorter)
	}
}

// P24.4: with less Size, or Time, what is found is a beginning of what is found without.
func TestBeginnings(t *testing.T) {
	less := 0
	hunts(t, 245, 40, 15, func(r *rand.Rand, v *tree.View, list []row) {
		b, a := someBook(t, r, list), someAsk(r, list)
		a.Size, a.Time = 0, 0
		all, code, _ := scan.Search(v, schema.Core(), b, a)
		whole := outcome(all, api.Success, nil)
		for range 5 {
			a.Size, a.Time = r.Intn(2*len(list)+1), r.Intn(4)
			some, other, _ := scan.Search(v, schema.Core(), b, a)
			begins := strings.HasPrefix(whole, strings.TrimSuffix(outcome(some, api.Success, nil), "]"))
			is(t, fmt.Sprintf("%+v: is it a beginning", a), begins, true)
			limited := other == api.SizeLimit || other == api.TimeLimit
			is(t, fmt.Sprintf("%+v: code %d, %d of %d", a, other, len(some), len(all)), other == code || limited, true)
			is(t, fmt.Sprintf("%+v: all, unless there is a limit", a), limited || len(some) == len(all), true)
			if len(some) < len(all) {
				less++
			}
			// With more of both there is no less.
			a.Size, a.Time = a.Size+min(a.Size, 1), a.Time+min(a.Time, 1)
			more, _, _ := scan.Search(v, schema.Core(), b, a)
			is(t, fmt.Sprintf("%+v: more", a), len(more) >= len(some), true)
		}
	})
	if less < 150 {
		t.Errorf("too few that found less: %d", less)
	}
}

// P1: filters that are very deep, or have themselves among their parts, and schemas that may not be.
func TestStrange(t *testing.T) {
	v, b := sample(t), open(t)
	deep := filter("(sn=p)")
	for range 200001 {
		deep = api.Filter{Kind: api.Not, Kids: []api.Filter{deep}}
	}
	a := scan.Ask{Base: name("ou=x,dc=z"), Scope: 1, Filter: deep, Names: []string{"-"}}
	is(t, "very deep", searched(v, b, a), "0 - []")
	self := make([]api.Filter, 1)
	self[0] = api.Filter{Kind: api.Or, Kids: self}
	a.Filter = self[0]
	is(t, "itself", searched(v, b, a), "0 - []")
	a.Filter = api.Filter{Kind: 77}
	is(t, "of no kind", searched(v, b, a), "0 - []")
	a.Filter = filter("(cn=*)")
	for _, s := range []api.Schema{{}, {Types: []api.Type{{}, {Name: "cn", Syntax: math.MaxInt}, {Name: "cn"}}}} {
		scan.Search(v, s, b, a)
		scan.Search(v, s, nil, a)
	}
}

// Memory: what is handed in stays, spare room included, and isn't kept; answers share nothing with each other.
func TestMemory(t *testing.T) {
	v, b := sample(t), open(t)
	a := scan.Ask{Who: name("cn=a,ou=x,dc=z"), Base: name("OU=x,dc=z"), Scope: 2, Filter: filter("(|(sn=p*)(cn=a)(cn=spare))"), Names: []string{"sn", "CN", "spare"}[:2]}
	a.Filter.Kids = a.Filter.Kids[:2]
	only := [][]int{{5, 4, 1, 3, 99}, {4, 5, 6, 3}, {7}}
	only[0] = only[0][:4]
	before := func() string {
		return fmt.Sprint(a, a.Names[:3], a.Filter.Kids[:3], only, only[0][:5])
	}
	was, want := before(), "0 - [ou=X,dc=z sn:p; cn=A,ou=x,dc=z cn:A sn:p; cn=b,ou=x,dc=z cn:b sn:p|r]"
	for range 2 {
		found, code, near := scan.Search(v, schema.Core(), b, a, only[:2]...)
		other, _, _ := scan.Search(v, schema.Core(), b, a, only[:2]...)
		is(t, "what is handed in", before(), was)
		is(t, "the answer", outcome(found, code, near), want)
		for _, f := range found {
			for i := range f.DN {
				clear(f.DN[i])
			}
			clear(f.DN[:cap(f.DN)])
			for _, x := range f.Attrs {
				clear(x.Values[:cap(x.Values)])
			}
			clear(f.Attrs[:cap(f.Attrs)])
		}
		clear(found[:cap(found)])
		is(t, "another answer", outcome(other, code, near), want)
	}
	all := fmt.Sprint(rows(v))
	searched(v, b, scan.Ask{Base: name("dc=z"), Scope: 2, Filter: filter("(&)"), TypesOnly: true})
	is(t, "the entries", fmt.Sprint(rows(v)), all)
}
