package dn_test

import (
	"math/rand"
	"slices"
	"strings"
	"testing"

	"castellan/api"
	"castellan/dn"
)

// prints: Print and Norm answer so.
func prints(t *testing.T, d api.DN, text, key string) {
	t.Helper()
	if s, e := dn.Print(d); e != api.OK || s != text {
		t.Errorf("Print(%s) is %q, %v, wanted %q", shape(d), s, e, text)
	}
	if s, e := dn.Norm(d); e != api.OK || s != key {
		t.Errorf("Norm(%s) is %q, %v, wanted %q", shape(d), s, e, key)
	}
	again(t, d)
}

// P9.2: texts and keys of names.
func TestPrint(t *testing.T) {
	prints(t, nil, "", "")
	prints(t, api.DN{}, "", "")
	prints(t, one("cn", ""), "cn=", "cn=")
	prints(t, one("CN", "A  b"), "CN=A  b", "cn=a b")
	prints(t, api.DN{rdn("cn", "A  b", "ou", "X"), rdn("dc", "z")}, "cn=A  b+ou=X,dc=z", "cn=a b+ou=x,dc=z")
	prints(t, one("cn", "\"+,;<>\\"), `cn=\"\+\,\;\<\>\\`, `cn=\"\+\,\;\<\>\\`)
	prints(t, one("cn", "a\"+,;<>\\a"), `cn=a\"\+\,\;\<\>\\a`, `cn=a\"\+\,\;\<\>\\a`)
	prints(t, one("cn", " "), `cn=\ `, `cn=`)
	prints(t, one("cn", "  "), `cn=\ \ `, `cn=`)
	prints(t, one("cn", "   "), `cn=\  \ `, `cn=`)
	prints(t, one("cn", "#"), `cn=\#`, `cn=\#`)
	prints(t, one("cn", "##"), `cn=\##`, `cn=\##`)
	prints(t, one("cn", " # "), `cn=\ #\ `, `cn=\#`)
	prints(t, one("cn", " A  #  B "), `cn=\ A  #  B\ `, `cn=a # b`)
	prints(t, one("cn", "="), `cn==`, `cn==`)
	prints(t, one("cn", "\x00a\x00"), `cn=\00a\00`, `cn=\00a\00`)
	prints(t, one("cn", "\x01\n\t\x7f\x80\xff\u00c9"), "cn=\x01\n\t\x7f\x80\xff\u00c9", "cn=\x01\n\t\x7f\x80\xff\u00c9")
	prints(t, one("cn", "\tA\t"), "cn=\tA\t", "cn=\ta\t")
	prints(t, one("A-9", "x"), "A-9=x", "a-9=x")
	prints(t, api.DN{rdn("dc", "b"), rdn("dc", "a")}, "dc=b,dc=a", "dc=b,dc=a")
}

// P9.2: in a key each RDN's types and values stand by their texts, not by their types.
func TestNormSorts(t *testing.T) {
	prints(t, api.DN{rdn("ou", "1", "cn", "2")}, "ou=1+cn=2", "cn=2+ou=1")
	prints(t, api.DN{rdn("B", "1", "a", "2")}, "B=1+a=2", "a=2+b=1")
	prints(t, api.DN{rdn("a", "1", "a-", "2", "a1", "3", "aa", "4")}, "a=1+a-=2+a1=3+aa=4", "a-=2+a1=3+a=1+aa=4")
	prints(t, api.DN{rdn("c", "1", "b", "2"), rdn("z", "0", "y", "9")}, "c=1+b=2,z=0+y=9", "b=2+c=1,y=9+z=0")
	rdn := wide(8)
	want, _ := dn.Norm(api.DN{rdn})
	is(t, "of eight", want, "t0=v+t1=v+t2=v+t3=v+t4=v+t5=v+t6=v+t7=v")
	slices.Reverse(rdn)
	got, _ := dn.Norm(api.DN{rdn})
	is(t, "in another order", got, want)
}

// P9.2: names that can't be printed: the first fault from the first RDN on, and the length in the end.
func TestPrintErrors(t *testing.T) {
	long := strings.Repeat("v", 4097)
	bad := rdn("1", "x")
	twice := rdn("a", "x", "A", "y")
	eight := wide(8)
	for _, c := range []struct {
		what string
		d    api.DN
		want api.Errno
	}{
		{"31 RDNs", many(31), api.OK},
		{"32 RDNs", many(32), api.OK},
		{"33 RDNs", many(33), api.ErrMany},
		{"1000 RDNs", many(1000), api.ErrMany},
		{"33 RDNs, the last one without a type", append(many(32), nil), api.ErrMany},
		{"33 RDNs, the 32nd without a type", append(many(31), nil, bad), api.ErrArg},
		{"33 RDNs, the 32nd bad", append(many(31), bad, nil), api.ErrName},
		{"33 RDNs, one too long", append(many(32), one("a", long)...), api.ErrMany},
		{"no type", api.DN{{}}, api.ErrArg},
		{"no type, of nil", api.DN{nil}, api.ErrArg},
		{"no type behind others", append(many(3), nil), api.ErrArg},
		{"no type, and bad ones behind", api.DN{{}, bad}, api.ErrArg},
		{"bad, and none behind", api.DN{bad, {}}, api.ErrName},
		{"eight types", api.DN{eight}, api.OK},
		{"nine types", api.DN{wide(9)}, api.ErrMany},
		{"nine types, the ninth bad", api.DN{append(wide(8), bad...)}, api.ErrMany},
		{"nine types, the ninth twice", api.DN{append(wide(8), eight[0])}, api.ErrMany},
		{"nine types, the eighth bad", api.DN{append(wide(7), bad[0], bad[0])}, api.ErrName},
		{"nine types, the eighth twice", api.DN{append(wide(7), eight[0], bad[0])}, api.ErrTwice},
		{"nine types in the second", api.DN{eight, wide(9)}, api.ErrMany},
		{"an empty type", one("", "x"), api.ErrName},
		{"a type of 33 letters", one(strings.Repeat("a", 33), "x"), api.ErrName},
		{"a type of 32 letters", one(strings.Repeat("a", 32), "x"), api.OK},
		{"a type with a blank", one("a ", "x"), api.ErrName},
		{"a type with an equals sign", one("a=", "x"), api.ErrName},
		{"a type of another alphabet", one("\u00e9", "x"), api.ErrName},
		{"a type twice", api.DN{twice}, api.ErrTwice},
		{"a type twice, and bad ones behind", api.DN{append(slices.Clone(twice), bad...)}, api.ErrTwice},
		{"a bad type twice", api.DN{rdn("1", "x", "1", "x")}, api.ErrName},
		{"a bad type, and one twice behind", api.DN{append(slices.Clone(bad), twice...)}, api.ErrName},
		{"a type twice, not side by side", api.DN{rdn("a", "", "b", "", "A", "")}, api.ErrTwice},
		{"a type in two RDNs", api.DN{rdn("a", ""), rdn("a", "")}, api.OK},
		{"4096 bytes", one("a", strings.Repeat("v", 4094)), api.OK},
		{"4097 bytes", one("a", strings.Repeat("v", 4095)), api.ErrLong},
		{"a value of 4096 bytes", one("a", strings.Repeat("v", 4096)), api.ErrLong},
		{"a value of 4097 bytes", one("a", long), api.ErrLong},
		{"a value of many bytes", one("a", strings.Repeat("v", 1<<24)), api.ErrLong},
		{"4096 bytes with signs", one("a", strings.Repeat(",", 2047)), api.OK},
		{"4098 bytes with signs", one("a", strings.Repeat(",", 2048)), api.ErrLong},
		{"4095 bytes with zeroes", one("a", strings.Repeat("\x00", 1364)+"v"), api.OK},
		{"4097 bytes with zeroes", one("a", strings.Repeat("\x00", 1365)), api.ErrLong},
		{"4096 bytes of two RDNs", api.DN{rdn("a", ""), rdn("a", strings.Repeat("v", 4091))}, api.OK},
		{"4097 bytes of two RDNs", api.DN{rdn("a", ""), rdn("a", strings.Repeat("v", 4092))}, api.ErrLong},
		{"4096 bytes of two types", api.DN{rdn("a", "", "b", strings.Repeat("v", 4091))}, api.OK},
		{"4097 bytes of two types", api.DN{rdn("a", "", "b", strings.Repeat("v", 4092))}, api.ErrLong},
		{"too long, and a bad one behind", api.DN{rdn("a", long), bad}, api.ErrName},
		{"too long, and none behind", api.DN{rdn("a", long), {}}, api.ErrArg},
		{"too long by blanks that the key lacks", one("a", strings.Repeat(" ", 5000)), api.ErrLong},
	} {
		text, e := dn.Print(c.d)
		is(t, "Print of "+c.what, e, c.want)
		key, e := dn.Norm(c.d)
		is(t, "Norm of "+c.what, e, c.want)
		if c.want != api.OK {
			is(t, "beside the error of "+c.what, text+key, "")
			is(t, "Under itself of "+c.what, dn.Under(c.d, c.d), false)
			is(t, "Under none of "+c.what, dn.Under(c.d, nil), false)
			is(t, "none under "+c.what, dn.Under(nil, c.d), false)
			continue
		}
		again(t, c.d)
	}
}

// P9.2, P9.4: all short values, written as the document names it.
func TestPrintAll(t *testing.T) {
	words("a \\\"+,;<>#=\x00", 4, func(v string) {
		again(t, one("cn", v))
		again(t, api.DN{rdn("cn", v, "ou", v), rdn("dc", v)})
	})
}

// P9.2: Key has Parse's error.
func TestKey(t *testing.T) {
	for _, c := range []struct {
		s, want string
		e       api.Errno
	}{
		{"", "", api.OK},
		{"cn=A  b+ou=X,dc=z", "cn=a b+ou=x,dc=z", api.OK},
		{"OU=\\20\\58\\20+CN=a\\ \\ b", "cn=a b+ou=x", api.OK},
		{"cn=\\ #", "cn=\\#", api.OK},
		{"cn=\\e9\\C9", "cn=\xe9\xc9", api.OK},
		{"cn= a", "", api.ErrForm},
		{"cn=a+CN=b", "", api.ErrTwice},
		{repeated("a=b", ",", 33), "", api.ErrMany},
		{strings.Repeat("a", 4097), "", api.ErrLong},
		{"a=" + strings.Repeat("B", 4094), "a=" + strings.Repeat("b", 4094), api.OK},
	} {
		key, e := dn.Key(c.s)
		if key != c.want || e != c.e {
			t.Errorf("Key(%.80q) is %.80q, %v, wanted %.80q, %v", c.s, key, e, c.want, c.e)
		}
	}
}

// P9.2, P9.4: names by chance; such as differ in letters' size, blanks and order alone have the same key.
func TestPrintSome(t *testing.T) {
	r := rand.New(rand.NewSource(10))
	for range 10000 {
		d := someName(r)
		again(t, d)
		other := copied(d)
		for _, rdn := range other {
			r.Shuffle(len(rdn), func(i, j int) { rdn[i], rdn[j] = rdn[j], rdn[i] })
			for i := range rdn {
				rdn[i].Type = strings.ToUpper(rdn[i].Type)
				rdn[i].Value = " " + strings.NewReplacer(" ", "   ", "a", "A").Replace(rdn[i].Value)
			}
		}
		key, _ := dn.Norm(d)
		otherKey, _ := dn.Norm(other)
		is(t, "the key of a name that is the same", otherKey, key)
		is(t, "under one that is the same", dn.Under(d, other), true)
		unchanged(t, "Print", d, func(d api.DN) { dn.Print(d) })
		unchanged(t, "Norm", d, func(d api.DN) { dn.Norm(d) })
	}
}
