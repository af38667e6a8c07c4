package plan_test

import (
	"fmt"
	"math"
	"math/rand"
	"testing"

	"castellan/api"
	"castellan/index"
	"castellan/plan"
)

// The chapter's examples.
func TestExamples(t *testing.T) {
	x := filled(t, "cn", "cn:a sn:x", "cn:b", "cn:a")
	is(t, "And", among(x, filter("(&(cn=a)(sn>=b))"), 9), "[1 3]")
	is(t, "Or", among(x, filter("(|(cn=a)(sn=b))"), 9), "all")
	is(t, "Or of none", among(x, filter("(|)"), 9), "[]")
}

// P20.2: each kind of filter.
func TestKinds(t *testing.T) {
	x := filled(t, "cn member userPassword employeeNumber objectClass uid", "cn:abcd,b", "cn:B member:cn=Abc uid:q", "uid:abcd userPassword:ABC employeeNumber:7", "sn:a")
	for text, want := range map[string]string{
		"(cn=b)": "[1 2]", "(CN= B )": "[1 2]", "(cn=no)": "[]", "(cn=)": "[]", "(cn=\\ff)": "[]",
		"(cn~=b)": "[1 2]", "(cn~=c)": "[]", "(sn~=a)": "all", "(member=CN=abc)": "[2]", "(member=x)": "[]", "(employeeNumber=7)": "[3]", "(employeeNumber=07)": "[]",
		"(cn=*)": "[1 2]", "(Uid=*)": "[2 3]", "(objectClass=*)": "[]", "(sn=*)": "all", "(sn=a)": "all", "(no=a)": "all", "(no=*)": "all",
		"(cn>=a)": "all", "(cn<=a)": "all", "(employeeNumber>=7)": "all", "(sn<=a)": "all",
		"(cn=a*)": "[1 2]", "(cn=*b)": "[1 2]", "(cn=*BCD*)": "[1]", "(cn=abc*cd)": "[1]", "(cn=xyz*)": "[]", "(uid=*abc*)": "[3]",
		"(sn=a*)": "all", "(member=cn=a*)": "all", "(userPassword=ABC*)": "all", "(employeeNumber=7*)": "all", "(objectClass=a*)": "[]",
		"(!(cn=b))": "all", "(!(cn>=b))": "all", "(!(!(cn=b)))": "all", "(!(|))": "all", "(!(&))": "all",
		"(&)": "all", "(&(cn=b))": "[1 2]", "(&(cn=b)(uid=q))": "[2]", "(&(cn=b)(uid=q)(cn=no))": "[]", "(&(sn=a)(cn>=b))": "all", "(&(sn=a)(cn=b))": "[1 2]", "(&(!(cn=b))(uid=*))": "[2 3]", "(&(&)(cn=b))": "[1 2]", "(&(|)(cn=b))": "[]", "(&(|(sn=a)(cn=b))(uid=q))": "[2]",
		"(|)": "[]", "(|(cn=b))": "[1 2]", "(|(cn=b)(uid=*))": "[1 2 3]", "(|(uid=*)(cn=b))": "[1 2 3]", "(|(cn=b)(sn=a))": "all", "(|(sn=a)(cn=b))": "all", "(|(cn=no)(uid=no))": "[]", "(|(&)(cn=b))": "all", "(|(|)(cn=b))": "[1 2]", "(|(&(sn=a)(cn=b))(uid=no))": "[1 2]",
	} {
		is(t, text, among(x, filter(text), 9), want)
	}
}

// P20.2: filters of no kind, and such as layer 10 hasn't.
func TestStrangeFilters(t *testing.T) {
	x := filled(t, "cn", "cn:abc", "cn:abcd")
	for _, kind := range []int{-1, 9, 10, 256, 1 << 32, 256 + api.Equal, math.MinInt, math.MaxInt} {
		is(t, fmt.Sprint("kind ", kind), among(x, api.Filter{Kind: kind, Attr: "cn", Value: "abc", Kids: []api.Filter{filter("(cn=abc)")}}, 9), "all")
		is(t, fmt.Sprint("beneath And, kind ", kind), among(x, api.Filter{Kind: api.And, Kids: []api.Filter{{Kind: kind, Attr: "cn"}, filter("(cn=abc)")}}, 9), "[1]")
		is(t, fmt.Sprint("beneath Or, kind ", kind), among(x, api.Filter{Kind: api.Or, Kids: []api.Filter{{Kind: kind, Attr: "cn"}, filter("(cn=abc)")}}, 9), "all")
	}
	is(t, "Not of none", among(x, api.Filter{Kind: api.Not}, 9), "all")
	is(t, "Not of two", among(x, api.Filter{Kind: api.Not, Kids: []api.Filter{filter("(cn=abc)"), filter("(cn=abc)")}}, 9), "all")
	is(t, "no attribute", among(x, api.Filter{Kind: api.Equal}, 9), "all")
	is(t, "no type", among(x, api.Filter{Kind: api.Present, Attr: "c n\x00"}, 9), "all")
	is(t, "what plays no part", among(x, api.Filter{Kind: api.Equal, Attr: "cn", Value: "abc", Pieces: []api.Piece{{}}, Kids: []api.Filter{{Kind: 77}}}, 9), "[1]")
	is(t, "what plays no part in And", among(x, api.Filter{Kind: api.And, Attr: "cn", Value: "abc", Pieces: []api.Piece{{}}}, 9), "all")
	is(t, "what plays no part in Pieces", among(x, api.Filter{Kind: api.Pieces, Attr: "cn", Value: "x", Pieces: []api.Piece{{Kind: api.Any, Text: "bcd"}}, Kids: []api.Filter{{Kind: 77}}}, 9), "[2]")
}

// P20.2: Pieces that aren't such as layer 10 has them tell nothing.
func TestStrangePieces(t *testing.T) {
	x := filled(t, "cn", "cn:abc", "cn:abcd")
	first, any, final := api.Piece{Kind: api.Initial, Text: "abc"}, api.Piece{Kind: api.Any, Text: "bcd"}, api.Piece{Kind: api.Final, Text: "bcd"}
	for _, c := range []struct {
		want   string
		pieces []api.Piece
	}{
		{"[1 2]", []api.Piece{first}}, {"[2]", []api.Piece{any}}, {"[2]", []api.Piece{final}}, {"[2]", []api.Piece{first, any, any, final}}, {"[2]", []api.Piece{first, final}},
		{"all", nil}, {"all", []api.Piece{}}, {"all", []api.Piece{{Kind: api.Any}}}, {"all", []api.Piece{first, {Kind: api.Any}}}, {"all", []api.Piece{{Kind: api.Initial}, any}},
		{"all", []api.Piece{any, first}}, {"all", []api.Piece{first, first}}, {"all", []api.Piece{final, any}}, {"all", []api.Piece{final, final}},
		{"all", []api.Piece{{Kind: 3, Text: "abc"}}}, {"all", []api.Piece{{Kind: -1, Text: "abc"}}}, {"all", []api.Piece{{Kind: 256, Text: "abc"}}},
	} {
		is(t, fmt.Sprint(c.pieces), among(x, api.Filter{Kind: api.Pieces, Attr: "CN", Pieces: c.pieces}, 9), c.want)
	}
}

// P20.2: in the place of a list of more than wide IDs it is all, also within And and Or.
func TestWide(t *testing.T) {
	x := filled(t, "cn sn uid", "cn:a sn:a", "cn:a,b", "cn:a,b uid:q", "sn:a,c", "sn:c uid:q")
	for _, c := range []struct {
		text string
		want map[int]string
	}{
		{"(cn=a)", map[int]string{4: "[1 2 3]", 3: "[1 2 3]", 2: "all", 0: "all", -1: "all", math.MaxInt: "[1 2 3]", math.MinInt: "all"}},
		{"(cn~=b)", map[int]string{2: "[2 3]", 1: "all"}},
		{"(cn=*)", map[int]string{3: "[1 2 3]", 2: "all"}},
		{"(cn=a*)", map[int]string{3: "[1 2 3]", 2: "all"}},
		{"(cn=no)", map[int]string{1: "[]", 0: "[]", -1: "all", math.MinInt: "all"}},
		{"(|)", map[int]string{1: "[]", 0: "[]", -1: "all"}},
		{"(&)", map[int]string{9: "all", 0: "all", -1: "all"}},
		{"(&(cn=a)(sn=c))", map[int]string{3: "[]", 2: "[4 5]", 1: "all"}},
		{"(&(cn=a)(uid=q))", map[int]string{3: "[3]", 2: "[3 5]", 1: "all"}},
		{"(&(cn=a)(cn=b)(uid=q))", map[int]string{3: "[3]", 2: "[3]", 1: "all"}},
		{"(|(cn=b)(sn=c))", map[int]string{4: "[2 3 4 5]", 3: "all", 2: "all", 1: "all"}},
		{"(|(cn=a)(cn=b))", map[int]string{3: "[1 2 3]", 2: "all"}},
		{"(|(cn=b)(&(cn=a)(sn=a)))", map[int]string{9: "[1 2 3]", 3: "[1 2 3]", 2: "all"}},
		{"(&(|(cn=b)(sn=c))(uid=q))", map[int]string{4: "[3 5]", 3: "[3 5]", 2: "[3 5]", 1: "all"}},
		{"(&(|(cn=b)(sn=c))(cn=a))", map[int]string{4: "[2 3]", 3: "[1 2 3]", 2: "all"}},
		{"(|(&(cn=a)(uid=q))(cn=no))", map[int]string{3: "[3]", 2: "[3 5]", 1: "all"}},
	} {
		for wide, want := range c.want {
			is(t, fmt.Sprint(c.text, " by ", wide), among(x, filter(c.text), wide), want)
		}
	}
}

// someFilter answers a filter of that depth at most, perhaps such as layer 10 hasn't.
func someFilter(r *rand.Rand, depth int) api.Filter {
	f := api.Filter{Kind: r.Intn(10), Attr: []string{"cn", "CN", "sn", "member", "uid", "ou"}[r.Intn(6)], Value: []string{"a", "B", "abc", "cn=a", "bca"}[r.Intn(5)]}
	if r.Intn(3) > 0 {
		f.Kind = []int{api.Equal, api.Present, api.Pieces, api.And, api.Or}[r.Intn(5)]
	}
	for range r.Intn(3) {
		f.Pieces = append(f.Pieces, api.Piece{Kind: r.Intn(3), Text: []string{"a", "abc", "Bca", "ca"}[r.Intn(4)]})
	}
	if depth > 1 {
		for range r.Intn(4) {
			f.Kids = append(f.Kids, someFilter(r, depth-1))
		}
	}
	return f
}

// someIndex answers an index of some types with some entries.
func someIndex(t *testing.T, r *rand.Rand) *index.Index {
	var lines []string
	for range 8 {
		line := ""
		for _, name := range []string{"cn", "sn", "uid", "ou"} {
			if r.Intn(2) == 0 {
				line += name + ":" + []string{"a", "b", "abc", "a,abc", "b,bca", "abca"}[r.Intn(6)] + " "
			}
		}
		lines = append(lines, line)
	}
	return filled(t, []string{"cn", "cn sn member", "cn sn uid", "member uid cn ou"}[r.Intn(4)], lines...)
}

// P20.2, P20.3: filters by chance: Among is as said in another way; with a greater wide there is a list wherever there
// was one, and no ID in it that wasn't there.
func TestSome(t *testing.T) {
	r := rand.New(rand.NewSource(20))
	lists, fewer, alls := 0, 0, 0
	for range 20000 {
		x, f := someIndex(t, r), someFilter(r, 1+r.Intn(4))
		var before []int
		was := false
		for wide := -1; wide < 10; wide++ {
			list, ok := plan.Among(x, f, wide)
			want, wantOK := plain(x, f, wide)
			is(t, fmt.Sprintf("%+v by %d", f, wide), outcome(list, ok), outcome(want, wantOK))
			if was && (!ok || !inside(list, before)) {
				t.Errorf("%+v by %d: %s, behind %v", f, wide, outcome(list, ok), before)
			}
			if was && len(list) < len(before) {
				fewer++
			}
			before, was = list, ok
		}
		if was {
			lists++
		} else {
			alls++
		}
	}
	if lists < 2000 || alls < 2000 || fewer < 20 {
		t.Errorf("too few: %d lists, %d that got shorter, %d without", lists, fewer, alls)
	}
}

// Of a nil index all filters but those that need none tell nothing.
func TestNil(t *testing.T) {
	for text, want := range map[string]string{"(cn=a)": "all", "(cn=*)": "all", "(cn=a*)": "all", "(&)": "all", "(|)": "[]", "(|(cn=a))": "all", "(&(cn=a)(|))": "[]"} {
		is(t, text, among(nil, filter(text), 9), want)
	}
}

// P1: filters that are very deep, that have one part in many places, and that have
// themselves among their parts.
func TestAnyDepth(t *testing.T) {
	x := filled(t, "cn", "cn:a", "cn:b", "cn:a")
	f := filter("(cn=a)")
	for range 65 {
		f = api.Filter{Kind: api.Or, Kids: []api.Filter{{Kind: api.And, Kids: []api.Filter{f}}}}
	}
	is(t, "130 deep", among(x, f, 9), "[1 3]")
	for i := range 500000 {
		f = api.Filter{Kind: i & 1, Kids: []api.Filter{f}}
	}
	is(t, "very deep", among(x, f, 9), "[1 3]")
	is(t, "very deep, by less", among(x, f, 1), "all")
	f = filter("(cn=a)")
	for i := range 100 {
		f = api.Filter{Kind: i & 1, Kids: []api.Filter{f, f}}
	}
	is(t, "in many places", among(x, f, 9), "[1 3]")
	round := make([]api.Filter, 2)
	round[0], round[1] = api.Filter{Kind: api.And, Kids: round}, filter("(cn=a)")
	is(t, "itself, And", among(x, round[0], 9), "[1 3]")
	round[0].Kind = api.Or
	is(t, "itself, Or", among(x, round[0], 9), "all")
}

// Memory: a filter stays as it is, and what is answered is other memory.
func TestMemory(t *testing.T) {
	x := filled(t, "cn", "cn:abc", "cn:b", "cn:abc")
	for _, text := range []string{"(cn=abc)", "(cn=*)", "(cn=a*b*c)", "(&(cn=abc))", "(|(cn=abc)(cn=no))", "(&(sn=a)(cn=abc)(cn=a*))"} {
		f := filter(text)
		before, first := fmt.Sprintf("%#v", f), among(x, f, 9)
		list, _ := plan.Among(x, f, 9)
		list = list[:cap(list)]
		for i := range list {
			list[i] = -1
		}
		is(t, text, fmt.Sprintf("%#v", f), before)
		is(t, text+" asked again", among(x, f, 9), first)
	}
}
