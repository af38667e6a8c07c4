package filt_test

import (
	"math/rand"
	"strings"
	"testing"

	"castellan/api"
	"castellan/filt"
)

// P10.2: texts of filters of all kinds.
func TestPrint(t *testing.T) {
	for _, c := range []struct {
		f    api.Filter
		want string
	}{
		{and(), "(&)"},
		{or(), "(|)"},
		{not(or()), "(!(|))"},
		{and(equal("a", "b"), or(present("c"), not(equal("d", "")))), "(&(a=b)(|(c=*)(!(d=))))"},
		{equal("cn", "a b"), "(cn=a b)"},
		{leaf(api.AtLeast, "cn", "a"), "(cn>=a)"},
		{leaf(api.AtMost, "cn", "a"), "(cn<=a)"},
		{leaf(api.Approx, "cn", "a"), "(cn~=a)"},
		{leaf(api.Approx, "cn", ""), "(cn~=)"},
		{present("CN"), "(CN=*)"},
		{equal("cn", "*"), "(cn=\\2a)"},
		{leaf(api.AtLeast, "cn", "*"), "(cn>=\\2a)"},
		{equal("cn", "\x00()*\\"), "(cn=\\00\\28\\29\\2a\\5c)"},
		{equal("cn", "\x01\n\x7f\x80\xff\u00e9&|!=<>~ #,"), "(cn=\x01\n\x7f\x80\xff\u00e9&|!=<>~ #,)"},
		{equal("cn", "\\2a"), "(cn=\\5c2a)"},
		{pieces(initial("a")), "(cn=a*)"},
		{pieces(anywhere("a")), "(cn=*a*)"},
		{pieces(final("a")), "(cn=*a)"},
		{pieces(initial("a"), final("b")), "(cn=a*b)"},
		{pieces(initial("a"), anywhere("b")), "(cn=a*b*)"},
		{pieces(anywhere("a"), final("b")), "(cn=*a*b)"},
		{pieces(anywhere("a"), anywhere("b")), "(cn=*a*b*)"},
		{pieces(initial("a"), anywhere("b"), anywhere("c"), final("d")), "(cn=a*b*c*d)"},
		{pieces(initial("*"), anywhere("("), final("\x00")), "(cn=\\2a*\\28*\\00)"},
		{api.Filter{Kind: api.Present, Attr: "a", Value: "v", Pieces: []api.Piece{{}}, Kids: []api.Filter{{}}}, "(a=*)"},
		{api.Filter{Kind: api.And, Attr: "?", Value: "v", Pieces: []api.Piece{{}}}, "(&)"},
		{api.Filter{Kind: api.Equal, Attr: "a", Value: "v", Pieces: []api.Piece{{}}, Kids: []api.Filter{{}, {}}}, "(a=v)"},
		{api.Filter{Kind: api.Pieces, Attr: "a", Value: "v", Pieces: []api.Piece{anywhere("x")}, Kids: []api.Filter{{Kind: 77}}}, "(a=*x*)"},
	} {
		text, e := filt.Print(c.f)
		is(t, "Print's error of "+c.want, e, api.OK)
		is(t, "Print", text, c.want)
		again(t, c.f)
	}
}

// P10.2: what is wrong first; Print tells the same.
func TestCheck(t *testing.T) {
	bad := api.Filter{Kind: 9}
	none := equal("1", "")
	broken := pieces()
	for _, c := range []struct {
		what string
		f    api.Filter
		want api.Errno
	}{
		{"of nothing", api.Filter{}, api.OK},
		{"the kind 9", bad, api.ErrOp},
		{"the kind -1", api.Filter{Kind: -1}, api.ErrOp},
		{"a great kind", api.Filter{Kind: 1 << 62, Attr: "cn"}, api.ErrOp},
		{"no kind, no type", api.Filter{Kind: 9, Attr: "1"}, api.ErrOp},
		{"Not without Kids", not(), api.ErrArg},
		{"Not of two", not(and(), and()), api.ErrArg},
		{"Not of two that are bad", not(bad, bad), api.ErrArg},
		{"Not of one", not(and()), api.OK},
		{"Not of a bad one", not(bad), api.ErrOp},
		{"And of a bad one", and(and(), bad, none), api.ErrOp},
		{"Or of a bad one", or(none, bad), api.ErrName},
		{"each ahead of its Kids", and(not(bad, bad), none), api.ErrArg},
		{"in order", and(and(and(none)), bad), api.ErrName},
		{"an empty type", equal("", "x"), api.ErrName},
		{"a type of 32 letters", equal(strings.Repeat("a", 32), "x"), api.OK},
		{"a type of 33 letters", equal(strings.Repeat("a", 33), "x"), api.ErrName},
		{"AtLeast of no type", leaf(api.AtLeast, "a b", ""), api.ErrName},
		{"AtMost of no type", leaf(api.AtMost, "a_", ""), api.ErrName},
		{"Approx of no type", leaf(api.Approx, "a=", ""), api.ErrName},
		{"Present of no type", present(""), api.ErrName},
		{"Pieces of no type", api.Filter{Kind: api.Pieces}, api.ErrName},
		{"no Pieces", broken, api.ErrForm},
		{"an empty Initial", pieces(initial("")), api.ErrForm},
		{"an empty Any", pieces(initial("a"), anywhere("")), api.ErrForm},
		{"an empty Final", pieces(initial("a"), final("")), api.ErrForm},
		{"two Initial", pieces(initial("a"), initial("b")), api.ErrForm},
		{"Initial behind Any", pieces(anywhere("a"), initial("b")), api.ErrForm},
		{"Initial behind Final", pieces(final("a"), initial("b")), api.ErrForm},
		{"two Final", pieces(final("a"), final("b")), api.ErrForm},
		{"Final ahead of Any", pieces(final("a"), anywhere("b")), api.ErrForm},
		{"Final between", pieces(initial("a"), final("b"), anywhere("c")), api.ErrForm},
		{"a piece of the kind 3", pieces(api.Piece{Kind: 3, Text: "a"}), api.ErrForm},
		{"a piece of the kind -1", pieces(initial("a"), api.Piece{Kind: -1, Text: "a"}), api.ErrForm},
		{"two Any", pieces(anywhere("a"), anywhere("a")), api.OK},
		{"Pieces ahead of what is bad", and(broken, bad), api.ErrForm},
		{"64 deep", deep(63, and()), api.OK},
		{"65 deep", deep(64, and()), api.ErrDeep},
		{"65 deep, of no kind", deep(64, bad), api.ErrDeep},
		{"64 deep, of no kind", deep(63, bad), api.ErrOp},
		{"65 deep, beneath Not of two", deep(60, not(deep(10, and()), and())), api.ErrArg},
		{"bad ahead of too deep", and(bad, deep(70, and())), api.ErrOp},
		{"too deep ahead of bad", and(deep(70, and()), bad), api.ErrDeep},
		{"1000000 deep", deep(1000000, and()), api.ErrDeep},
		{"1000", or(list(and(), 999)...), api.OK},
		{"1001", or(list(and(), 1000)...), api.ErrMany},
		{"1001 leaves", or(list(present("a"), 1000)...), api.ErrMany},
		{"1001, the last one bad", or(append(list(and(), 999), bad)...), api.ErrMany},
		{"1001, the 1000th bad", or(append(list(and(), 998), bad, and())...), api.ErrOp},
		{"1001 of several depths", and(or(list(and(), 499)...), or(list(and(), 499)...)), api.ErrMany},
		{"1000 of several depths", and(or(list(and(), 499)...), or(list(and(), 498)...)), api.OK},
		{"1001st too deep", or(append(list(and(), 935), deep(65, and()))...), api.ErrDeep},
		{"1001st just not too deep", or(append(list(and(), 937), deep(62, and()))...), api.ErrMany},
		{"Kids that play no part", api.Filter{Kind: api.Equal, Attr: "a", Kids: list(bad, 2000)}, api.OK},
		{"deep Kids that play no part", api.Filter{Kind: api.Present, Attr: "a", Kids: []api.Filter{deep(100, bad)}}, api.OK},
		{"Pieces that play no part", api.Filter{Kind: api.Approx, Attr: "a", Pieces: []api.Piece{{Kind: 9}}}, api.OK},
		{"a type that plays no part", api.Filter{Kind: api.Or, Attr: "?"}, api.OK},
	} {
		is(t, "Check of "+c.what, filt.Check(c.f), c.want)
		text, e := filt.Print(c.f)
		if c.want == api.OK {
			again(t, c.f)
			continue
		}
		is(t, "Print's error of "+c.what, e, c.want)
		is(t, "Print of "+c.what, text, "")
	}
}

// P10.2: too long a text.
func TestPrintLong(t *testing.T) {
	v := func(n int) string { return strings.Repeat("v", n) }
	huge := v(1 << 24)
	for _, c := range []struct {
		what string
		f    api.Filter
		long bool
	}{
		{"4096 bytes", equal("a", v(4092)), false},
		{"4097 bytes", equal("a", v(4093)), true},
		{"4096 bytes of AtLeast", leaf(api.AtLeast, "a", v(4091)), false},
		{"4097 bytes of AtLeast", leaf(api.AtLeast, "a", v(4092)), true},
		{"4095 bytes of digits", equal("a", strings.Repeat("*", 1363)+"vv"), false},
		{"4096 bytes of digits", equal("a", strings.Repeat("*", 1363)+"vvv"), false},
		{"4097 bytes of digits", equal("a", strings.Repeat("*", 1364)+"v"), true},
		{"4096 bytes of an Initial one", pieces(initial(v(4090))), false},
		{"4097 bytes of an Initial one", pieces(initial(v(4091))), true},
		{"4096 bytes of a Final one", pieces(final(v(4090))), false},
		{"4097 bytes of a Final one", pieces(final(v(4091))), true},
		{"4096 bytes of an Any one", pieces(anywhere(v(4089))), false},
		{"4097 bytes of an Any one", pieces(anywhere(v(4090))), true},
		{"4096 bytes of a Not", not(equal("a", v(4089))), false},
		{"4097 bytes of a Not", not(equal("a", v(4090))), true},
		{"4096 bytes of many", or(append(list(equal("a", "v"), 818), present("a"))...), false},
		{"4097 bytes of many", or(append(list(equal("a", "v"), 817), equal("a", "v"), equal("a", "v"))...), true},
		{"a huge value", equal("a", huge), true},
		{"many huge values", or(list(equal("a", huge), 999)...), true},
		{"many huge pieces", or(list(pieces(initial(huge), anywhere(huge), final(huge)), 999)...), true},
		{"4096 bytes of many pieces", pieces(append(many(anywhere("a"), 2044), final("aa"))...), false},
		{"4097 bytes of many pieces", pieces(append(many(anywhere("a"), 2044), final("aaa"))...), true},
		{"pieces without number", or(list(pieces(many(anywhere("a"), 10000)...), 99)...), true},
	} {
		text, e := filt.Print(c.f)
		is(t, "Check of "+c.what, filt.Check(c.f), api.OK)
		if c.long {
			is(t, "Print's error of "+c.what, e, api.ErrLong)
			is(t, "Print of "+c.what, text, "")
			continue
		}
		again(t, c.f)
	}
}

// many answers a piece so many times.
func many(p api.Piece, n int) []api.Piece {
	var out []api.Piece
	for range n {
		out = append(out, p)
	}
	return out
}

// P10.2, P10.4: values of each byte, and filters by chance, with what plays no part.
func TestPrintSome(t *testing.T) {
	for c := range 256 {
		v := string([]byte{byte(c)})
		for _, v := range []string{v, v + v, "a" + v, v + "a"} {
			again(t, equal("a", v))
			again(t, leaf(api.AtMost, "a", v))
			again(t, pieces(initial(v), anywhere(v), final(v)))
		}
	}
	r := rand.New(rand.NewSource(21))
	for range 10000 {
		again(t, someFilter(r, 1+r.Intn(5), true))
	}
}

// P1, P10.2: Check of filters by chance that may be none, held against the words said of a list of all that is met.
func TestCheckSome(t *testing.T) {
	r := rand.New(rand.NewSource(22))
	for range 3000 {
		f := anyFilter(r, 1+r.Intn(70))
		var met []api.Errno
		meet(f, 1, &met)
		want := api.OK
		for i, e := range met {
			if i == 1000 && e != api.ErrDeep {
				e = api.ErrMany
			}
			if want = e; e != api.OK {
				break
			}
		}
		if e := filt.Check(f); e != want {
			t.Errorf("Check of %.1000s: %v, wanted %v", shape(f), e, want)
		}
		filt.Bare(f)
	}
}

// meet puts what is wrong with each filter in f, itself ahead, behind the list.
func meet(f api.Filter, depth int, met *[]api.Errno) {
	e := api.OK
	switch {
	case depth > 64:
		e = api.ErrDeep
	case f.Kind < 0 || f.Kind > 8:
		e = api.ErrOp
	case f.Kind == 2 && len(f.Kids) != 1:
		e = api.ErrArg
	case f.Kind > 2 && f.Attr != "cn":
		e = api.ErrName
	case f.Kind == 4 && len(f.Pieces) != 1:
		e = api.ErrForm
	}
	*met = append(*met, e)
	if f.Kind < 0 || f.Kind > 2 || depth > 64 {
		return
	}
	for _, kid := range f.Kids {
		meet(kid, depth+1, met)
	}
}

// anyFilter answers a filter that may be none, its one type cn, its pieces one Any.
func anyFilter(r *rand.Rand, depth int) api.Filter {
	f := api.Filter{Kind: r.Intn(3), Attr: "cn", Pieces: []api.Piece{anywhere("a")}}
	kids := []int{0, 1, 1, 1, 2, 3}[r.Intn(6)]
	if f.Kind == api.Not || depth > 30 {
		kids = 1
	}
	if depth == 1 {
		f.Kind, kids = 3+r.Intn(6), 0
	}
	switch r.Intn(60) {
	case 0:
		f.Kind = []int{-1, 9, 100}[r.Intn(3)]
	case 1:
		f.Attr = ""
	case 2:
		f.Pieces = nil
	case 3:
		kids += r.Intn(3)
	case 4:
		kids = 0
	}
	for range kids {
		if depth > 1 {
			f.Kids = append(f.Kids, anyFilter(r, depth-1))
		}
	}
	return f
}
