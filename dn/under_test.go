package dn_test

import (
	"math/rand"
	"testing"

	"castellan/api"
	"castellan/dn"
)

// P9.3: Under of names as texts.
func TestUnder(t *testing.T) {
	for _, c := range []struct {
		d, base string
		want    bool
	}{
		{"", "", true},
		{"dc=z", "", true},
		{"", "dc=z", false},
		{"dc=z", "dc=z", true},
		{"dc=z", "DC=\\ Z\\ ", true},
		{"cn=a,ou=x,dc=z", "", true},
		{"cn=a,ou=x,dc=z", "dc=z", true},
		{"cn=a,ou=x,dc=z", "ou=x,dc=z", true},
		{"cn=a,ou=x,dc=z", "cn=a,ou=x,dc=z", true},
		{"cn=a,OU=x,DC=z", "ou=X,dc=z", true},
		{"cn=a,ou=x,dc=z", "cn=b,ou=x,dc=z", false},
		{"cn=a,ou=x,dc=z", "ou=y,dc=z", false},
		{"cn=a,ou=x,dc=z", "ou=x", false},
		{"cn=a,ou=x,dc=z", "cn=a", false},
		{"cn=a,ou=x,dc=z", "cn=a,dc=z", false},
		{"ou=x,dc=z", "cn=a,ou=x,dc=z", false},
		{"ou=xdc=z", "dc=z", false},
		{"ou=x\\,dc=z", "dc=z", false},
		{"ou=x+dc=z", "dc=z", false},
		{"cn=1+sn=2,dc=z", "sn=2+cn=1,dc=z", true},
		{"a=b,cn=1+sn=2", "sn=2+cn=1", true},
		{"cn=1+sn=2", "cn=1", false},
		{"cn=1", "cn=1+sn=2", false},
		{"cn=a  b,dc=z", "cn=A b,dc=z", true},
		{"cn=ab,dc=z", "cn=a b,dc=z", false},
		{"cn=a,dc=zz", "dc=z", false},
		{"cn=a,dc=z", "dc=zz", false},
	} {
		d, _ := dn.Parse(c.d)
		base, _ := dn.Parse(c.base)
		is(t, c.d+" under "+c.base, dn.Under(d, base), c.want)
		unchanged(t, "Under", d, func(d api.DN) { dn.Under(d, base) })
		unchanged(t, "Under", base, func(base api.DN) { dn.Under(d, base) })
	}
	is(t, "the most RDNs", dn.Under(many(32), many(32)), true)
	is(t, "the most RDNs under fewer", dn.Under(many(32), many(31)), true)
	is(t, "fewer RDNs under the most", dn.Under(many(31), many(32)), false)
	is(t, "too many under few", dn.Under(many(33), many(1)), false)
	is(t, "a fault ahead of what the base has", dn.Under(dn.Join(many(1), nil), many(1)), false)
}

// P9.3: Join of any number of RDNs, of such as can't be printed too.
func TestJoin(t *testing.T) {
	x, y, z := rdn("cn", "x"), rdn("ou", "y", "o", "w"), rdn("dc", "z")
	for _, c := range []struct {
		got, want api.DN
	}{
		{dn.Join(nil), nil},
		{dn.Join(api.DN{}), nil},
		{dn.Join(api.DN{z}), api.DN{z}},
		{dn.Join(nil, x), api.DN{x}},
		{dn.Join(api.DN{z}, x), api.DN{x, z}},
		{dn.Join(api.DN{z}, x, y), api.DN{x, y, z}},
		{dn.Join(api.DN{y, z}, x), api.DN{x, y, z}},
		{dn.Join(api.DN{z}, x, x), api.DN{x, x, z}},
		{dn.Join(api.DN{nil}, nil, x), api.DN{nil, x, nil}},
		{dn.Join(api.DN{rdn("1", "\x00")}, x), api.DN{x, rdn("1", "\x00")}},
		{dn.Join(many(33), many(40)...), many(73)},
		{dn.Join(api.DN{wide(20)}, wide(9)), api.DN{wide(9), wide(20)}},
	} {
		if !same(c.got, c.want) {
			t.Errorf("Join answers %s, wanted %s", shape(c.got), shape(c.want))
		}
	}
}

// P9.3, memory: what Join answers shares none with what was handed in, nor one RDN with another one.
func TestJoinMemory(t *testing.T) {
	x := append(make(api.RDN, 0, 4), api.AVA{Type: "cn", Value: "x"})
	d := append(make(api.DN, 0, 9), x, x)
	list := append(make([]api.RDN, 0, 9), x, x)
	got := dn.Join(d, list...)
	want := shape(got)
	_ = append(x, api.AVA{Type: "a", Value: "b"})
	_ = append(list[:1], rdn("a", "b"))
	x[0].Value, d[1], list[0] = "changed", nil, nil
	is(t, "behind changes of what was handed in", shape(got), want)
	for i := range got {
		got[i][0].Value = string(rune('0' + i))
		_ = append(got[i], api.AVA{Type: "a", Value: "b"})
	}
	is(t, "RDNs side by side", shape(got), "cn:\"0\" / cn:\"1\" / cn:\"2\" / cn:\"3\" / ")
	is(t, "what was handed in", x[0].Value, "changed")
	unchanged(t, "Join", many(3), func(d api.DN) { dn.Join(d, d...) })
	unchanged(t, "Join", many(3), func(d api.DN) { dn.Join(d[:1], d[1:]...) })
}

// P9.3: a name lies under each that is made of it by taking RDNs off, and under no other one of those at hand.
func TestUnderSome(t *testing.T) {
	r := rand.New(rand.NewSource(11))
	for range 5000 {
		d := someName(r)
		base := someName(r)
		is(t, "joined", dn.Under(dn.Join(base, d...), base), true)
		key, _ := dn.Norm(base)
		want := false
		for i := range len(d) + 1 {
			tail, _ := dn.Norm(d[i:])
			want = want || tail == key
			is(t, "under its own end", dn.Under(d, d[i:]), true)
			is(t, "its end under it", dn.Under(d[i:], d), i == 0)
		}
		is(t, shape(d)+"under "+shape(base), dn.Under(d, base), want)
	}
}

// P1: names that are none.
func TestEnds(t *testing.T) {
	r := rand.New(rand.NewSource(12))
	for range 5000 {
		var d api.DN
		for range r.Intn(40) {
			var rdn api.RDN
			for range r.Intn(10) {
				rdn = append(rdn, api.AVA{Type: someText(r, "ab1-\x00\xff", r.Intn(3)), Value: someText(r, "a \\,\x00\xff", r.Intn(300))})
			}
			d = append(d, rdn)
		}
		text, e := dn.Print(d)
		key, normE := dn.Norm(d)
		is(t, "two errors", e, normE)
		is(t, "beside an error", e == api.OK || text+key == "", true)
		is(t, "under itself", dn.Under(d, d), e == api.OK)
		is(t, "joined", len(dn.Join(d, d...)), 2*len(d))
		if e == api.OK {
			again(t, d)
		}
	}
}
