package dn_test

import (
	"math/rand"
	"strings"
	"testing"

	"castellan/api"
	"castellan/dn"
)

// P9.1: Type of all texts of one and of two bytes, and at its ends.
func TestType(t *testing.T) {
	letters := "ABCDEFGHIJKLMNOPQRSTUVWXYZabcdefghijklmnopqrstuvwxyz"
	rest := letters + "0123456789-"
	is(t, "empty", dn.Type(""), false)
	for c := range 256 {
		first := string([]byte{byte(c)})
		is(t, first, dn.Type(first), strings.Contains(letters, first))
		for c := range 256 {
			s := first + string([]byte{byte(c)})
			is(t, s, dn.Type(s), strings.Contains(letters, first) && strings.Contains(rest, s[1:]))
		}
	}
	for _, length := range []int{3, 31, 32, 33, 34, 64, 1000000} {
		is(t, "long", dn.Type(strings.Repeat("a", length)), length <= 32)
		is(t, "long of digits", dn.Type("Z"+strings.Repeat("9", length-1)), length <= 32)
		is(t, "long with a stranger", dn.Type(strings.Repeat("a", length-1)+"_"), false)
	}
	for _, s := range []string{"é", "aé", "\u212a", "a\u212a", "a\u0663", "\u00c0", "a\xff", "a\xe9b", "a b", " a", "a ", "a.b", "a;b", "2.5.4.3", "a\x00", "a=", "a\n"} {
		is(t, s, dn.Type(s), false)
	}
	for _, s := range []string{"cn", "userPassword", "a--", "x-1", "z9"} {
		is(t, s, dn.Type(s), true)
	}
}

// P9.1: Parse of names, as they are spelt.
func TestParse(t *testing.T) {
	for _, c := range []struct {
		s    string
		want api.DN
	}{
		{"", api.DN{}},
		{"cn=A  b+ou=X,dc=z", api.DN{rdn("cn", "A  b", "ou", "X"), rdn("dc", "z")}},
		{"cn=\\ a", one("cn", " a")},
		{"cn=", one("cn", "")},
		{"cn=,CN=+a=", api.DN{rdn("cn", ""), rdn("CN", "", "a", "")}},
		{"cn=a=b==", one("cn", "a=b==")},
		{"cn==", one("cn", "=")},
		{"cn=\\=", one("cn", "=")},
		{"cn=a#b c", one("cn", "a#b c")},
		{"cn=a#", one("cn", "a#")},
		{"cn=\\#a\\#\\ \\ b", one("cn", "#a#  b")},
		{"cn=\\ ", one("cn", " ")},
		{"cn=\\  a \\ ", one("cn", "  a  ")},
		{"cn=\\20a\\20", one("cn", " a ")},
		{"cn=\\\"\\+\\,\\;\\<\\>\\\\", one("cn", "\"+,;<>\\")},
		{"cn=\\22\\2B\\2c\\3b\\3C\\3e\\5C\\00\\3d\\23", one("cn", "\"+,;<>\\\x00=#")},
		{"cn=\\ff\\FF\\fF\\c3\\a9", one("cn", "\xff\xff\xff\u00e9")},
		{"cn=\xff\u00e9\n\r\t\x01\x7f", one("cn", "\xff\u00e9\n\r\t\x01\x7f")},
		{"cn=()*&|!~'/:.-_", one("cn", "()*&|!~'/:.-_")},
		{"cn=\\61b\\63", one("cn", "abc")},
		{"cn=\\ab2", one("cn", "\xab2")},
	} {
		d, e := dn.Parse(c.s)
		if e != api.OK || !same(d, c.want) {
			t.Errorf("Parse(%q) is %s, %v, wanted %s", c.s, shape(d), e, shape(c.want))
		}
		asPlain(t, c.s)
	}
}

// P9.1: what can't be read is ErrForm.
func TestParseForm(t *testing.T) {
	for _, s := range []string{
		"cn", "=", "=a", "1=a", "-a=b", "cn =a", " cn=a", "cn= a", "cn=a ", "cn= ", "cn=#a", "cn=#", "cn=a,", ",cn=a", "cn=a,,cn=a", "cn=a, cn=b",
		"cn=a+", "+cn=a", "cn=a++ou=b", "cn=a+,ou=b", "cn=a,b", "cn=a+b", ",", "+", " ", "cn=a ,ou=b", "cn=a +ou=b", "cn=a,ou= b", "cn=a+ou=#b",
		"cn=\\", "cn=\\4", "cn=a\\", "cn=\\4g", "cn=\\g4", "cn=\\a", "cn=\\n", "cn=\\(", "cn=\\4,ou=a", "cn=\\ \\", "cn=\\\\ ", "cn=\\5c ", "cn=\\20 ",
		"cn=a\x00b", "cn=\x00", "cn=\\\x00", "cn=a\"b", "cn=\"a\"", "cn=a;b", "cn=a;ou=b", "cn=<", "cn=a>", "cn=a<b",
		"2.5.4.3=a", "cn;x=a", "c\x00n=a", "\u00e9=a", strings.Repeat("a", 33) + "=b",
	} {
		if d, e := dn.Parse(s); e != api.ErrForm || d != nil {
			t.Errorf("Parse(%q) is %s, %v", s, shape(d), e)
		}
		asPlain(t, s)
	}
	is(t, "a type of 32 letters", parseError(strings.Repeat("a", 32)+"=b"), api.OK)
}

// parseError is Parse's error.
func parseError(s string) api.Errno {
	d, e := dn.Parse(s)
	if e != api.OK && d != nil {
		return -1
	}
	return e
}

// repeated answers s so many times, with a mark between two.
func repeated(s, mark string, times int) string {
	return strings.TrimSuffix(strings.Repeat(s+mark, times), mark)
}

// P9.1: too many RDNs, or types in one; a type twice; too long a text.
func TestParseLimits(t *testing.T) {
	is(t, "MaxRdns", api.MaxRdns, 32)
	is(t, "MaxAvas", api.MaxAvas, 8)
	is(t, "MaxText", api.MaxText, 4096)
	eight := "a=,b=,c=,d=,e=,f=,g=,h="
	eightInOne := strings.ReplaceAll(eight, ",", "+")
	for _, c := range []struct {
		s    string
		want api.Errno
	}{
		{repeated("a=b", ",", 31), api.OK},
		{repeated("a=b", ",", 32), api.OK},
		{repeated("a=b", ",", 33), api.ErrMany},
		{repeated("a=b", ",", 500), api.ErrMany},
		{repeated("a=b", ",", 32) + ",", api.ErrMany},
		{repeated("a=b", ",", 32) + ",1", api.ErrMany},
		{repeated("a=b", ",", 31) + ",", api.ErrForm},
		{repeated("a=b", ",", 31) + ",c= ,d=e,f", api.ErrForm},
		{repeated("a=b", ",", 31) + ",c=+C=,d=e", api.ErrTwice},
		{repeated(eightInOne, ",", 32), api.OK},
		{repeated(eightInOne, ",", 32) + ",", api.ErrMany},
		{eightInOne, api.OK},
		{eightInOne + "+i=", api.ErrMany},
		{eightInOne + "+", api.ErrMany},
		{eightInOne + "+a=", api.ErrMany},
		{eightInOne + "+1", api.ErrMany},
		{eightInOne + ",a=", api.OK},
		{"x=,y=+" + eightInOne, api.ErrMany},
		{eight, api.OK},
		{"a=+b=+c=+d=+e=+f=+g=+", api.ErrForm},
		{"a=+b=+c=+d=+e=+f=+g=+g=", api.ErrTwice},
		{"cn=a+CN=b", api.ErrTwice},
		{"cn=a+ou=b+Cn=c", api.ErrTwice},
		{"cn=a+cn= ", api.ErrTwice},
		{"cn=a+cn=\x00", api.ErrTwice},
		{"cn=a+cn", api.ErrForm},
		{"cn=a+ou= +cn=b", api.ErrForm},
		{"cn=a+cn=b,,", api.ErrTwice},
		{"cn=a,cn=a", api.OK},
		{"cn=a+cn1=a+cn-=a", api.OK},
		{"cn=a,ou=b+OU=c", api.ErrTwice},
		{"a=" + strings.Repeat("b", 4093), api.OK},
		{"a=" + strings.Repeat("b", 4094), api.OK},
		{"a=" + strings.Repeat("b", 4095), api.ErrLong},
		{strings.Repeat(",", 4096), api.ErrForm},
		{strings.Repeat(",", 4097), api.ErrLong},
		{strings.Repeat("a=b,", 1025), api.ErrLong},
		{"a=" + strings.Repeat("\\2c", 1364), api.OK},
		{"a=" + strings.Repeat("\\2c", 1365), api.ErrLong},
		{strings.Repeat("\x00", 1<<20), api.ErrLong},
	} {
		is(t, c.s[:min(len(c.s), 80)], parseError(c.s), c.want)
		asPlain(t, c.s)
	}
}

// P9.1, P9.4: Parse of all short texts of the bytes that make a difference, held against another way to read.
func TestParseAll(t *testing.T) {
	words("a=,+\\2 #", 6, func(s string) { asPlain(t, s) })
	words("aB,+\\ #\x000g", 4, func(s string) { asPlain(t, "cn="+s) })
	for c := range 256 {
		one := string([]byte{byte(c)})
		for _, s := range []string{one, one + "a", "a" + one, "a" + one + "b", "\\" + one, "\\" + one + "0", "\\0" + one, "\\\\" + one} {
			asPlain(t, "cn="+s)
			asPlain(t, "cn="+s+",ou=b")
			asPlain(t, "cn="+s+"+ou=b")
			asPlain(t, s+"=b")
		}
	}
}

// P9.1, P9.4: likewise of long texts by chance, and of such as are names but for one byte.
func TestParseSome(t *testing.T) {
	r := rand.New(rand.NewSource(9))
	for range 10000 {
		asPlain(t, someText(r, "abc=,+\\2 #\"<\x00\xff", r.Intn(40)))
		text, _ := dn.Print(someName(r))
		asPlain(t, text)
		if text != "" {
			at := r.Intn(len(text))
			asPlain(t, text[:at]+someText(r, "a=,+\\ #\x002", 1)+text[at+1:])
			asPlain(t, text[:at]+text[at+1:])
		}
	}
}

// Memory: two answers share none, nor two RDNs of one.
func TestParseMemory(t *testing.T) {
	text := "a=1+b=2,c=3,d=4+e=5"
	d, _ := dn.Parse(text)
	for i := range d {
		_ = append(d[i], api.AVA{Type: "x", Value: "y"})
	}
	want := "a:\"1\" b:\"2\" / c:\"3\" / d:\"4\" e:\"5\" / "
	is(t, "what stands beside spare room", shape(d), want)
	d[0][0].Value, d[1] = "z", nil
	again, _ := dn.Parse(text)
	is(t, "the next answer", shape(again), want)
}
