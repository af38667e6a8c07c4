package scan_test

import (
	"fmt"
	"math/rand"
	"testing"

	"castellan/acl"
	"castellan/api"
	"castellan/scan"
)

// visible answers what Visible tells as a text.
func visible(id int, near api.DN) string { return fmt.Sprint(id, " ", text(near)) }

// P24.1: the entry of a name, whatever its spelling; else the nearest one above, as it is spelt.
func TestVisible(t *testing.T) {
	v := grown(t, "DC=z", "ou=X,dc=Z", "cn=A  b,OU=x,dc=z", "cn=c,cn=a b,ou=x,dc=z", "ou=y,dc=z").View
	b := open(t)
	for d, want := range map[string]string{
		"dc=z": "1 -", "DC=Z": "1 -", "ou=x,dc=z": "2 -", "OU=X,DC=Z": "2 -", "cn=a B,ou=x,dc=z": "3 -", "CN=C,cn=a  b,ou=x,dc=z": "4 -", "ou=y,dc=z": "5 -",
		"ou=q,dc=z": "0 DC=z", "cn=q,ou=x,dc=z": "0 ou=X,dc=Z", "cn=q,cn=p,ou=x,dc=z": "0 ou=X,dc=Z", "cn=q,cn=A B,ou=x,dc=z": "0 cn=A  b,OU=x,dc=z", "cn=q,cn=c,cn=a b,ou=x,dc=z": "0 cn=c,cn=a b,ou=x,dc=z", "cn=q,ou=q,dc=z": "0 DC=z",
		"": "0 -", "dc=y": "0 -", "ou=x": "0 -", "dc=z,dc=y": "0 -", "ou=x,dc=z,dc=y": "0 -", "ou=x\\,dc=z": "0 -",
	} {
		is(t, d, visible(scan.Visible(v, b, nil, name(d))), want)
		is(t, d+" by somebody", visible(scan.Visible(v, b, name("cn=x"), name(d))), want)
	}
}

// P24.1: what somebody may not see isn't told, be it the entry of the name or one above.
func TestHidden(t *testing.T) {
	v := grown(t, "dc=z", "ou=x,dc=z", "cn=a,ou=x,dc=z", "cn=b,cn=a,ou=x,dc=z").View
	hide := func(where string) api.Rule { return api.Rule{Where: where, Rights: api.See} }
	show := func(where string) api.Rule { return api.Rule{Where: where, Rights: api.See, Allow: true} }
	low, lower, lowest := "ou=x,dc=z", "cn=a,ou=x,dc=z", "cn=b,cn=a,ou=x,dc=z"
	none := "cn=q," + lowest
	for i, c := range []struct {
		rules []api.Rule
		want  map[string]string
	}{
		{nil, map[string]string{"dc=z": "0 -", low: "0 -", lowest: "0 -", none: "0 -", "dc=y": "0 -"}},
		{[]api.Rule{hide(lowest), show("")}, map[string]string{lowest: "0 " + lower, none: "0 " + lower, lower: "3 -", "dc=z": "1 -"}},
		{[]api.Rule{hide(lower), show("")}, map[string]string{lowest: "0 " + low, none: "0 " + low, lower: "0 " + low, "cn=q," + lower: "0 " + low, low: "2 -", "cn=q," + low: "0 " + low}},
		{[]api.Rule{show(lowest), hide(low), show("")}, map[string]string{lowest: "4 -", none: "0 " + lowest, lower: "0 dc=z", "cn=q," + lower: "0 dc=z", low: "0 dc=z", "dc=z": "1 -"}},
		{[]api.Rule{hide(lowest), show(lower)}, map[string]string{lowest: "0 " + lower, none: "0 " + lower, lower: "3 -", low: "0 -", "dc=z": "0 -", "cn=q," + low: "0 -"}},
		{[]api.Rule{hide(lower), show(low)}, map[string]string{lowest: "0 " + low, lower: "0 " + low, low: "2 -", "dc=z": "0 -"}},
		// Only See counts, and that of the entry itself
		{[]api.Rule{{Rights: 14, Allow: true}}, map[string]string{"dc=z": "0 -", low: "0 -"}},
		{[]api.Rule{{Attr: "cn", Rights: 15, Allow: true}}, map[string]string{"dc=z": "0 -", low: "0 -"}},
		{[]api.Rule{{Rights: 14}, show("")}, map[string]string{"dc=z": "1 -", low: "2 -"}},
		{[]api.Rule{{Who: api.Known, Rights: 15, Allow: true}}, map[string]string{"dc=z": "0 -", low: "0 -"}},
	} {
		for d, want := range c.want {
			is(t, fmt.Sprint("rules ", i, ": ", d), visible(scan.Visible(v, book(t, c.rules...), nil, name(d))), want)
		}
		is(t, fmt.Sprint("rules ", i, ", who may all"), visible(scan.Visible(v, book(t, c.rules...), name("cn=root"), name(lowest))), "4 -")
	}
	// As it is spelt is as that entry is, not as it is spelt in the names beneath it
	spelt := grown(t, "DC=z", "ou=X,dc=z", "cn=a,OU=x,dc=Z", "cn=b,CN=A,ou=x,DC=Z").View
	is(t, "one that is hidden", visible(scan.Visible(spelt, book(t, hide(lowest), show("")), nil, name(none))), "0 cn=a,OU=x,dc=Z")
	is(t, "two that are hidden", visible(scan.Visible(spelt, book(t, hide(lower), show("")), nil, name(none))), "0 ou=X,dc=z")
	is(t, "three that are hidden", visible(scan.Visible(spelt, book(t, hide(low), show("")), nil, name(lowest))), "0 DC=z")
	self := book(t, api.Rule{Who: api.Self, Rights: api.See, Allow: true})
	is(t, "oneself", visible(scan.Visible(v, self, name(lower), name("CN=A,OU=x,DC=z"))), "3 -")
	is(t, "beneath oneself", visible(scan.Visible(v, self, name(lower), name(lowest))), "0 "+lower)
	is(t, "above oneself", visible(scan.Visible(v, self, name(lower), name(low))), "0 -")
}

// P24.1: names that can't be printed, of whom or of what; nothing to look at, and nothing to look by.
func TestStrangeNames(t *testing.T) {
	v, b := grown(t, "dc=z", "ou=x,dc=z").View, open(t)
	for what, d := range strange() {
		is(t, what, visible(scan.Visible(v, b, nil, d)), "0 -")
		is(t, what+", who may all", visible(scan.Visible(v, b, name("cn=root"), d)), "0 -")
		is(t, what+", who", visible(scan.Visible(v, b, d, name("ou=x,dc=z"))), "0 -")
	}
	is(t, "no view", visible(scan.Visible(nil, b, nil, name("dc=z"))), "0 -")
	is(t, "no book", visible(scan.Visible(v, nil, name("cn=root"), name("dc=z"))), "0 -")
	is(t, "neither", visible(scan.Visible(nil, nil, nil, nil)), "0 -")
	empty := grown(t, "dc=z")
	empty.Do(api.Update{Kind: api.Deleted, DN: name("dc=z")})
	is(t, "no entries", visible(scan.Visible(empty.View, b, nil, name("dc=z"))), "0 -")
}

// P24.1: trees, books and names by chance: as told in another way.
func TestSomeVisible(t *testing.T) {
	r := rand.New(rand.NewSource(241))
	count := map[string]int{}
	for range 300 {
		v := someTree(t, r, 3+r.Intn(20)).View
		list := rows(v)
		b := someBook(t, r, list)
		for range 40 {
			who, d := someName(r, list), someName(r, list)
			id, near := scan.Visible(v, b, who, d)
			wantID, wantNear := plainVisible(list, b, who, d)
			is(t, fmt.Sprintf("%s by %s of %+v", text(d), text(who), list), visible(id, near), visible(wantID, wantNear))
			count[fmt.Sprint(v.Find(d) > 0, id > 0, len(near) > 0)]++
		}
	}
	for _, what := range []string{"true true false", "true false true", "true false false", "false false true", "false false false"} {
		if count[what] < 200 {
			t.Errorf("too few of %s: %v", what, count)
		}
	}
}

// Memory: what is handed in stays, and what is answered is other memory than the tree's.
func TestVisibleMemory(t *testing.T) {
	x := grown(t, "dc=z", "cn=a+sn=b,dc=z")
	b, who, d := open(t), name("cn=x,dc=y"), name("cn=q,CN=a+SN=b,dc=z")
	for range 2 {
		before := fmt.Sprint(who, d)
		_, near := scan.Visible(x.View, b, who, d)
		is(t, "what is handed in", fmt.Sprint(who, d), before)
		is(t, "the nearest", text(near), "cn=a+sn=b,dc=z")
		for i := range near {
			for j := range near[i] {
				near[i][j] = api.AVA{}
			}
		}
		clear(near[:cap(near)])
	}
}

// A book that has no rules shows nothing to anybody but the one who may all.
func TestOwner(t *testing.T) {
	v := grown(t, "dc=z").View
	b, e := acl.New(api.Schema{}, name("cn=owner"))
	is(t, "New", e, api.OK)
	is(t, "who may all", visible(scan.Visible(v, b, name("CN=OWNER"), name("dc=z"))), "1 -")
	is(t, "another", visible(scan.Visible(v, b, name("cn=root"), name("dc=z"))), "0 -")
}
