package filt_test

import (
	"math/rand"
	"strings"
	"testing"

	"castellan/api"
	"castellan/filt"
)

// P10.1: Parse of filters of all kinds.
func TestParse(t *testing.T) {
	for _, c := range []struct {
		s    string
		want api.Filter
	}{
		{"(cn=a)", equal("cn", "a")},
		{"(cn=)", equal("cn", "")},
		{"(cn>=a)", leaf(api.AtLeast, "cn", "a")},
		{"(cn<=a)", leaf(api.AtMost, "cn", "a")},
		{"(cn~=a)", leaf(api.Approx, "cn", "a")},
		{"(cn>=)", leaf(api.AtLeast, "cn", "")},
		{"(cn<=)", leaf(api.AtMost, "cn", "")},
		{"(cn~=)", leaf(api.Approx, "cn", "")},
		{"(cn=*)", present("cn")},
		{"(cn==)", equal("cn", "=")},
		{"(cn=>=a)", equal("cn", ">=a")},
		{"(cn>==a)", leaf(api.AtLeast, "cn", "=a")},
		{"(cn~=~=)", leaf(api.Approx, "cn", "~=")},
		{"(cn= a )", equal("cn", " a ")},
		{"(cn=&)", equal("cn", "&")},
		{"(cn=|!<>~#,+;\"'/)", equal("cn", "|!<>~#,+;\"'/")},
		{"(cn=\xff\u00e9\n\x01\x7f)", equal("cn", "\xff\u00e9\n\x01\x7f")},
		{"(cn=\\2a)", equal("cn", "*")},
		{"(cn=\\2A\\28\\29\\5c\\5C\\00)", equal("cn", "*()\\\\\x00")},
		{"(cn=\\61\\ff\\Ff\\fF\\FF\\c3\\A9)", equal("cn", "a\xff\xff\xff\xff\u00e9")},
		{"(cn=\\616)", equal("cn", "a6")},
		{"(cn>=\\2a)", leaf(api.AtLeast, "cn", "*")},
		{"(A-9=b)", equal("A-9", "b")},
		{"(cn=a*)", pieces(initial("a"))},
		{"(cn=*a)", pieces(final("a"))},
		{"(cn=*a*)", pieces(anywhere("a"))},
		{"(cn=a*b)", pieces(initial("a"), final("b"))},
		{"(cn=a*b*c)", pieces(initial("a"), anywhere("b"), final("c"))},
		{"(cn=*a*b*c*)", pieces(anywhere("a"), anywhere("b"), anywhere("c"))},
		{"(cn=a*b*)", pieces(initial("a"), anywhere("b"))},
		{"(cn=*a*b)", pieces(anywhere("a"), final("b"))},
		{"(cn=\\2a*\\2a*\\2a)", pieces(initial("*"), anywhere("*"), final("*"))},
		{"(cn= * )", pieces(initial(" "), final(" "))},
		{"(cn=\\00*)", pieces(initial("\x00"))},
		{"(&)", and()},
		{"(|)", or()},
		{"(!(&))", not(and())},
		{"(&(a=b))", and(equal("a", "b"))},
		{"(|(a=b))", or(equal("a", "b"))},
		{"(!(a=b))", not(equal("a", "b"))},
		{"(&(cn=a*b)(!(sn=*)))", and(pieces(initial("a"), final("b")), not(present("sn")))},
		{"(&(|(a=1)(b=2))(&)(c=3))", and(or(equal("a", "1"), equal("b", "2")), and(), equal("c", "3"))},
	} {
		f, e := filt.Parse(c.s)
		if e != api.OK || shape(f) != shape(c.want) {
			t.Errorf("Parse(%q) is %s, %v, wanted %s", c.s, shape(f), e, shape(c.want))
		}
		asPlain(t, c.s)
	}
}

// parseError is Parse's error.
func parseError(t *testing.T, s string) api.Errno {
	t.Helper()
	f, e := filt.Parse(s)
	if e != api.OK {
		is(t, "beside an error", shape(f), nothing)
	}
	asPlain(t, s)
	return e
}

// P10.1: what can't be read is ErrForm.
func TestParseForm(t *testing.T) {
	for _, s := range []string{
		"", "(", ")", "()", "((", "(a", "(a=", "(a=b", "a=b", "cn=a)", "cn", "*", " (a=b)", "(a=b) ", "(a=b)(a=b)", "(a=b))", "(a=b)x", "((a=b))", "( a=b)", "(a =b)",
		"(=a)", "(=)", "(1=a)", "(a)", "(a>b)", "(a<b)", "(a~b)", "(a>)", "(>=a)", "(a:=b)", "(a:dn:=b)", "(a;x=b)", "(a.b=c)", "(2.5.4.3=a)", "(\u00e9=a)", "(a\x00=b)", "(a> =b)",
		"(a=>*)x", "(a<>=b)", "(a>>=b)", "(a~>=b)", "(" + strings.Repeat("a", 33) + "=b)", "(" + strings.Repeat("a", 33) + ">=b)",
		"(cn>=*)", "(cn<=*)", "(cn~=*)", "(cn>=a*)", "(cn<=*a)", "(cn~=a*b)", "(cn>=a*b*c)", "(cn=**)", "(cn=***)", "(cn=a**)", "(cn=**a)", "(cn=a**b)", "(cn=a*b**)", "(cn=a*b**c)",
		"(cn=a(b)", "(cn=()", "(cn=(a=b))", "(cn=a\x00b)", "(cn=\x00)", "(cn=a*\x00)", "(cn>=(a)", "(cn=*(*)",
		"(cn=\\)", "(cn=\\2)", "(cn=\\2a\\)", "(cn=\\2g)", "(cn=\\g2)", "(cn=\\*2)", "(cn=\\2*)", "(cn=\\\\)", "(cn=\\()", "(cn=\\ 2)", "(cn=a*\\)", "(cn=\\2", "(cn=\\2a", "(cn=\\x41)",
		"(&", "(|", "(!", "(&)x", "(!)", "(&a=b)", "(&(a=b)", "(&(a=b)x)", "(&x(a=b))", "(& (a=b))", "(&(a=b) )", "(&(a=b)(c=d)", "(!a=b)", "(!(a=b)(c=d))", "(!(a=b)x)", "(!(a=b)", "(!(!))", "(&&)", "(&(&)|)",
		"(|(a=b)(c=))x", "(&(a=b)(c))",
	} {
		is(t, s, parseError(t, s), api.ErrForm)
	}
}

// P10.1: too deep, too many, too long; the first fault from the left.
func TestParseLimits(t *testing.T) {
	is(t, "MaxNest", api.MaxNest, 64)
	is(t, "MaxNodes", api.MaxNodes, 1000)
	is(t, "MaxText", api.MaxText, 4096)
	nots := func(n int, s string) string { return strings.Repeat("(!", n) + s + strings.Repeat(")", n) }
	ands := func(n int, s string) string { return strings.Repeat("(&", n) + s + strings.Repeat(")", n) }
	many := func(n int) string { return strings.Repeat("(&)", n) }
	for _, c := range []struct {
		what, s string
		want    api.Errno
	}{
		{"63 around one", nots(63, "(a=b)"), api.OK},
		{"64 around one", nots(64, "(a=b)"), api.ErrDeep},
		{"64 around what can't be read", nots(64, "a=b"), api.ErrForm},
		{"64 around a parenthesis alone", strings.Repeat("(!", 64) + "(", api.ErrDeep},
		{"64 around nothing", nots(64, ""), api.ErrForm},
		{"63 around what can't be read", nots(63, "(a)"), api.ErrForm},
		{"64 of And", ands(64, ""), api.OK},
		{"65 of And", ands(65, ""), api.ErrDeep},
		{"63 of And around many", ands(63, "(a=b)(c=d)(&)"), api.OK},
		{"many side by side, one too deep", "(|(a=b)" + ands(63, "(c=d)") + ")", api.ErrDeep},
		{"deep again and again", "(|" + strings.Repeat(ands(3, nots(3, "(a=b)")), 90) + ")", api.OK},
		{"too deep, then a fault", nots(64, "(a=b)") + "x", api.ErrDeep},
		{"a fault, then too deep", "(&(a)" + ands(64, "") + ")", api.ErrForm},
		{"a value that can't be read, then too deep", "(&(a=\\2)" + ands(64, "") + ")", api.ErrForm},
		{"within a value it isn't deep", ands(64, "")[:128] + "(a=(b))", api.ErrDeep},
		{"a parenthesis in a value", ands(63, "(a=(b))"), api.ErrForm},
		{"1000 filters", "(|" + many(999) + ")", api.OK},
		{"1001 filters", "(|" + many(1000) + ")", api.ErrMany},
		{"1001 filters, the last one begun", "(|" + many(999) + "(", api.ErrMany},
		{"1001 filters, the last one a fault", "(|" + many(999) + "x", api.ErrForm},
		{"1000 filters without an end", "(|" + many(999), api.ErrForm},
		{"1001 leaves", "(|" + strings.Repeat("(a=)", 1000) + ")", api.ErrMany},
		{"1000 leaves", "(|" + strings.Repeat("(a=)", 999) + ")", api.OK},
		{"1001 of several depths", "(&(|" + many(499) + ")(|" + many(498) + "))", api.OK},
		{"1002 of several depths", "(&(|" + many(499) + ")(|" + many(499) + "))", api.ErrMany},
		{"1001, and a fault ahead", "(|(a)" + many(1000) + ")", api.ErrForm},
		{"1001, and a fault behind", "(|" + many(1000) + "(a))", api.ErrMany},
		{"1001st too deep", "(|" + many(935) + strings.Repeat("(&", 64) + "(", api.ErrDeep},
		{"1001st just not too deep", "(|" + many(937) + strings.Repeat("(&", 62) + "(", api.ErrMany},
		{"1000 and a second one", many(1000), api.ErrForm},
		{"4096 bytes", "(a=" + strings.Repeat("v", 4092) + ")", api.OK},
		{"4097 bytes", "(a=" + strings.Repeat("v", 4093) + ")", api.ErrLong},
		{"4096 bytes with digits", "(a=v" + strings.Repeat("\\2a", 1363) + "vv)", api.OK},
		{"4096 bytes that can't be read", strings.Repeat("x", 4096), api.ErrForm},
		{"4097 bytes that can't be read", strings.Repeat("x", 4097), api.ErrLong},
		{"4096 parentheses", strings.Repeat("(", 4096), api.ErrForm},
		{"4097 bytes, too deep", strings.Repeat("(&", 2049), api.ErrLong},
		{"4096 bytes, too deep", strings.Repeat("(&", 2048), api.ErrDeep},
		{"many bytes", strings.Repeat("(&", 1<<20), api.ErrLong},
	} {
		is(t, c.what, parseError(t, c.s), c.want)
	}
}

// P10.1, P10.4: Parse of all short texts of the bytes that make a difference, held against another way to read.
func TestParseAll(t *testing.T) {
	words("(&!)a=", 7, func(s string) { asPlain(t, "("+s) })
	words("*a\\2(", 6, func(s string) { asPlain(t, "(a="+s+")") })
	words("=<>~*a", 5, func(s string) { asPlain(t, "(a"+s+")") })
	for c := range 256 {
		one := string([]byte{byte(c)})
		for _, s := range []string{one, one + "a", "a" + one, "\\" + one, "\\" + one + "0", "\\0" + one, "*" + one, one + "*", "a*" + one + "*b"} {
			asPlain(t, "(cn="+s+")")
			asPlain(t, "(cn>="+s+")")
			asPlain(t, "(&(cn="+s+")(a=b))")
			asPlain(t, "("+s+"=b)")
		}
	}
}

// P10.1, P10.4: likewise of long texts by chance, and of such as are filters but for one byte.
func TestParseSome(t *testing.T) {
	r := rand.New(rand.NewSource(20))
	for range 10000 {
		asPlain(t, "("+someText(r, "(((()))))&|!ab=<>~*\\2\x00\xff", r.Intn(40)))
		text, _ := filt.Print(someFilter(r, 1+r.Intn(4), false))
		asPlain(t, text)
		if text != "" {
			at := r.Intn(len(text))
			asPlain(t, text[:at]+someText(r, "a=()*\\&!2\x00", 1)+text[at+1:])
			asPlain(t, text[:at]+text[at+1:])
		}
	}
}

// Memory: two answers share none, nor two lists of one.
func TestParseMemory(t *testing.T) {
	text := "(&(|(a=1)(b=2)(c=3))(!(d=4))(e=x*y*z)(f=u*v*w))"
	f, _ := filt.Parse(text)
	want := shape(f)
	spoil(&f)
	is(t, "what stands beside spare room", shape(f), want)
	f.Kids[0].Kids[0].Attr, f.Kids[2].Pieces[1].Text, f.Kids[1].Kids = "z", "z", nil
	other, _ := filt.Parse(text)
	is(t, "the next answer", shape(other), want)
}

// spoil writes into the spare room of all lists of a filter.
func spoil(f *api.Filter) {
	_ = append(f.Pieces, api.Piece{Kind: 9, Text: "spoilt"})
	_ = append(f.Kids, api.Filter{Kind: 9, Attr: "spoilt"})
	for i := range f.Kids {
		spoil(&f.Kids[i])
	}
}
