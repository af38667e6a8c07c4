package truth_test

import (
	"fmt"
	"math"
	"math/rand"
	"slices"
	"strings"
	"testing"

	"castellan/api"
	"castellan/index"
	"castellan/plan"
	"castellan/schema"
	"castellan/truth"
)

// The numbers of the chapter.
func TestNumbers(t *testing.T) {
	is(t, "False", truth.False, 0)
	is(t, "True", truth.True, 1)
	is(t, "Undefined", truth.Undefined, 2)
}

// The chapter's examples.
func TestExamples(t *testing.T) {
	list := attrs(t, schema.Core(), "cn:a")
	for text, want := range map[string]string{"(cn=A)": "true", "(sn=x)": "false", "(zz=x)": "undefined", "(!(zz=x))": "undefined", "(|(zz=x)(cn=a))": "true"} {
		is(t, text, word(truth.Of(schema.Core(), filter(text), list)), want)
	}
}

// P21.1: all of some, one of some, and the other way round, also of numbers that are no truth.
func TestJoins(t *testing.T) {
	is(t, "And of none", truth.And(), truth.True)
	is(t, "Or of none", truth.Or(), truth.False)
	numbers := []int{truth.False, truth.True, truth.Undefined, -1, 3, 256, math.MinInt, math.MaxInt}
	lists := [][]int{nil}
	for range 4 {
		for _, list := range lists {
			for _, n := range numbers {
				lists = append(lists, append(slices.Clone(list), n))
			}
		}
		lists = slices.DeleteFunc(lists, func(list []int) bool { return len(list) > 4 })
	}
	for _, list := range lists {
		least, most := yes, no
		for _, v := range list {
			least, most = min(least, there(v)), max(most, there(v))
		}
		is(t, fmt.Sprint("And of ", list), truth.And(list...), back(least))
		is(t, fmt.Sprint("Or of ", list), truth.Or(list...), back(most))
	}
	for _, n := range numbers {
		is(t, fmt.Sprint("Not of ", n), truth.Not(n), back(2-there(n)))
	}
}

// asked: what filters, told as texts, are of attributes.
func asked(t *testing.T, s api.Schema, list []api.Attr, truths map[string]string) {
	t.Helper()
	for text, want := range truths {
		is(t, text, word(truth.Of(s, filter(text), list)), want)
	}
}

// P21.2: Present.
func TestPresent(t *testing.T) {
	asked(t, mixed(), full(t), map[string]string{
		"(text=*)": "true", "(TEXT=*)": "true", "(octets=*)": "true", "(name=*)": "true", "(truth=*)": "true", "(time=*)": "true",
		"(Other-Text=*)": "false", "(objectclass=*)": "false", "(none=*)": "undefined", "(tex=*)": "undefined", "(text-=*)": "undefined",
	})
	asked(t, mixed(), nil, map[string]string{"(text=*)": "false", "(none=*)": "undefined"})
}

// P21.2: Equal and Approx, of each syntax.
func TestEqual(t *testing.T) {
	truths := map[string]string{
		"(text=  aB c )": "true", "(text=ab  d)": "false", "(text=X)": "true", "(text=)": "undefined", "(text=\\ff)": "undefined", "(text= )": "false",
		"(exact=Ab  C)": "true", "(exact=ab  C)": "false", "(exact=Ab C)": "false", "(exact=)": "undefined",
		"(ascii=aB c)": "true", "(ascii=)": "true", "(ascii=y)": "false", "(ascii=\\80)": "undefined",
		"(number=10)": "true", "(number=-3)": "true", "(number=3)": "false", "(number=010)": "undefined", "(number=9223372036854775808)": "undefined",
		"(truth=TRUE)": "true", "(truth=FALSE)": "false", "(truth=true)": "undefined",
		"(name=cn=a,DC=Z)": "true", "(name=)": "true", "(name=cn=b)": "false", "(name=cn)": "undefined",
		"(octets=Ab\\ff)": "true", "(octets=)": "true", "(octets=ab\\ff)": "false",
		"(time=20240229120000Z)": "true", "(time=20240228120000Z)": "false", "(time=20230229120000Z)": "undefined",
		"(other-text=x)": "false", "(other-text=)": "undefined", "(none=x)": "undefined",
	}
	asked(t, mixed(), full(t), truths)
	approx := map[string]string{}
	for text, want := range truths {
		approx[strings.Replace(text, "=", "~=", 1)] = want
	}
	asked(t, mixed(), full(t), approx)
	f := filter("(text=x)")
	for n, want := range map[int]string{api.MaxText: "false", api.MaxText + 1: "undefined"} {
		f.Value = strings.Repeat("x", n)
		is(t, fmt.Sprint("a value of ", n), word(truth.Of(mixed(), f, full(t))), want)
	}
}

// P21.2: AtLeast and AtMost, of each syntax: one of the values is enough.
func TestOrder(t *testing.T) {
	asked(t, mixed(), full(t), map[string]string{
		"(number>=9)": "true", "(number>=10)": "true", "(number>=11)": "false", "(number<=-3)": "true", "(number<=-4)": "false", "(number<=9)": "true", "(number>=-9223372036854775808)": "true", "(number>=01)": "undefined", "(number<=)": "undefined",
		"(text>=ab c)": "true", "(text>=W)": "true", "(text>=y)": "false", "(text<=AB  C)": "true", "(text<=ab b)": "false", "(text<=a)": "false", "(text>=)": "undefined", "(text<=\\ff)": "undefined",
		"(exact>=x)": "true", "(exact>=xa)": "false", "(exact<=Ab  C)": "true", "(exact<=Ab  B)": "false", "(exact<=Z)": "true", "(exact>=)": "undefined",
		"(ascii>=x)": "true", "(ascii>=y)": "false", "(ascii<=)": "true", "(ascii>=)": "true", "(ascii<=\\80)": "undefined",
		"(truth>=TRUE)": "undefined", "(truth<=TRUE)": "undefined", "(name>=cn=a)": "undefined", "(name<=)": "undefined", "(octets>=a)": "undefined", "(octets<=)": "undefined",
		"(time>=20240229120000Z)": "true", "(time>=20240229120001Z)": "false", "(time<=20240229120000Z)": "true", "(time<=20240229115959Z)": "false", "(time>=2024)": "undefined",
		"(other-text>=a)": "false", "(other-text<=a)": "false", "(other-text>=)": "undefined", "(none>=a)": "undefined", "(none<=a)": "undefined",
	})
	// What may be asked hangs on no value that is there.
	asked(t, mixed(), nil, map[string]string{
		"(number>=1)": "false", "(number<=x)": "undefined", "(truth>=TRUE)": "undefined", "(name<=cn=a)": "undefined", "(octets>=a)": "undefined", "(time<=20240229120000Z)": "false",
	})
}

// P21.2: Pieces, of each syntax.
func TestPieces(t *testing.T) {
	asked(t, mixed(), full(t), map[string]string{
		"(text=A*)": "true", "(text=*C)": "true", "(text=a*b*c)": "true", "(text=*b *)": "true", "(text=*b  c)": "false", "(text=*b c)": "true", "(text=x*)": "true", "(text=x*x)": "false", "(text=*y*)": "false",
		"(exact=A*)": "true", "(exact=a*)": "false", "(exact=*b  C)": "true", "(exact=*b C)": "false", "(ascii=AB*)": "true", "(ascii=*d*)": "false",
		"(number=1*)": "undefined", "(truth=T*)": "undefined", "(name=cn=a*)": "undefined", "(octets=A*)": "undefined", "(time=2*)": "undefined",
		"(other-text=a*)": "false", "(none=a*)": "undefined", "(text=\\ff*)": "false",
	})
	asked(t, mixed(), nil, map[string]string{"(text=a*)": "false", "(number=1*)": "undefined", "(name=cn=a*)": "undefined"})
}

// P21.2: Pieces that aren't such as layer 10 has them: nothing is said, whatever values there are.
func TestStrangePieces(t *testing.T) {
	first, any, final := api.Piece{Kind: api.Initial, Text: "a"}, api.Piece{Kind: api.Any, Text: "b"}, api.Piece{Kind: api.Final, Text: "c"}
	for _, c := range []struct {
		ok     bool
		pieces []api.Piece
	}{
		{true, []api.Piece{first}}, {true, []api.Piece{any}}, {true, []api.Piece{final}}, {true, []api.Piece{first, any, final}}, {true, []api.Piece{any, any}}, {true, []api.Piece{first, final}},
		{false, nil}, {false, []api.Piece{}}, {false, []api.Piece{{Kind: api.Any}}}, {false, []api.Piece{first, {Kind: api.Any}}}, {false, []api.Piece{{Kind: api.Initial}, any}},
		{false, []api.Piece{any, first}}, {false, []api.Piece{first, first}}, {false, []api.Piece{final, any}}, {false, []api.Piece{final, final}},
		{false, []api.Piece{{Kind: 3, Text: "a"}}}, {false, []api.Piece{{Kind: -1, Text: "a"}}}, {false, []api.Piece{{Kind: 256, Text: "a"}}},
	} {
		f := api.Filter{Kind: api.Pieces, Attr: "TEXT", Pieces: c.pieces}
		list := attrs(t, mixed(), "text:abbc")
		want := "undefined"
		if c.ok {
			want = word(back(plain(mixed(), f, list)))
		}
		is(t, fmt.Sprint(c.pieces), word(truth.Of(mixed(), f, list)), want)
		f.Attr = "other-text"
		if c.ok {
			want = "false"
		}
		is(t, fmt.Sprint(c.pieces, " without values"), word(truth.Of(mixed(), f, list)), want)
	}
}

// P21.2: And, Or and Not.
func TestBranches(t *testing.T) {
	asked(t, mixed(), full(t), map[string]string{
		"(&)": "true", "(|)": "false", "(!(&))": "false", "(!(|))": "true",
		"(&(text=x)(number=10))": "true", "(&(text=x)(number=1))": "false", "(&(text=x)(none=1))": "undefined", "(&(none=x)(number=1))": "false", "(&(none=x))": "undefined",
		"(|(text=y)(number=1))": "false", "(|(text=y)(number=10))": "true", "(|(text=y)(none=1))": "undefined", "(|(none=1)(text=x))": "true", "(|(none=x))": "undefined",
		"(!(text=x))": "false", "(!(text=y))": "true", "(!(text=))": "undefined", "(!(!(text=x)))": "true", "(!(!(none=x)))": "undefined",
		"(&(|(text=y)(text=x))(!(number=1)))": "true", "(|(&(text=x)(none=1))(number=1))": "undefined", "(!(&(text=x)(none=1)))": "undefined", "(!(|(text=x)(none=1)))": "false",
	})
}

// P21.2: a Not whose parts aren't one, kinds that are none, and what plays no part.
func TestStrangeFilters(t *testing.T) {
	list := full(t)
	told := func(f api.Filter) string { return word(truth.Of(mixed(), f, list)) }
	x, y := filter("(text=x)"), filter("(text=y)")
	is(t, "Not of none", told(of(api.Not)), "undefined")
	is(t, "Not of two", told(of(api.Not, x, x)), "undefined")
	is(t, "Not of two that aren't true", told(of(api.Not, y, y)), "undefined")
	is(t, "Not of three", told(of(api.Not, y, y, y)), "undefined")
	for _, kind := range []int{-1, 9, 10, 256, 256 + api.Equal, 1 << 32, math.MinInt, math.MaxInt} {
		f := api.Filter{Kind: kind, Attr: "text", Value: "x", Pieces: []api.Piece{{Kind: api.Any, Text: "x"}}, Kids: []api.Filter{x}}
		is(t, fmt.Sprint("kind ", kind), told(f), "undefined")
		is(t, fmt.Sprint("not of kind ", kind), told(of(api.Not, f)), "undefined")
		is(t, fmt.Sprint("And with kind ", kind), told(of(api.And, f, y)), "false")
		is(t, fmt.Sprint("Or with kind ", kind), told(of(api.Or, f, x)), "true")
	}
	is(t, "no attribute", told(api.Filter{Kind: api.Present}), "undefined")
	is(t, "no type", told(api.Filter{Kind: api.Present, Attr: "te xt\x00"}), "undefined")
	junk := api.Filter{Attr: "none", Value: "\xff", Pieces: []api.Piece{{}}, Kids: []api.Filter{y, {Kind: 77}}}
	for kind, want := range map[int]string{api.Equal: "true", api.Approx: "true", api.AtLeast: "true", api.AtMost: "true", api.Present: "true", api.Pieces: "true"} {
		f := junk
		f.Kind, f.Attr = kind, "text"
		if kind == api.Pieces {
			f.Pieces = []api.Piece{{Kind: api.Any, Text: "x"}}
		} else if kind != api.Present {
			f.Value = "x"
		}
		is(t, fmt.Sprint("what plays no part in kind ", kind), told(f), want)
	}
	for kind, want := range map[int]string{api.And: "true", api.Or: "true", api.Not: "false"} {
		f := junk
		f.Kind, f.Kids = kind, []api.Filter{x}
		is(t, fmt.Sprint("what plays no part in kind ", kind), told(f), want)
	}
}

// P21.2: filters and attributes by chance, as said in another way.
func TestSome(t *testing.T) {
	r := rand.New(rand.NewSource(21))
	count := map[string]int{}
	for range 40000 {
		list, f := someAttrs(t, r, mixed()), someFilter(r, mixed(), 1+r.Intn(4))
		got := word(truth.Of(mixed(), f, list))
		is(t, fmt.Sprintf("%+v of %q", f, list), got, word(back(plain(mixed(), f, list))))
		count[fmt.Sprint(got, f.Kind)]++
	}
	for _, v := range []string{"false", "true", "undefined"} {
		for kind := api.And; kind <= api.Approx; kind++ {
			if n := count[fmt.Sprint(v, kind)]; n < 80 {
				t.Errorf("too few that are %s, of kind %d: %d", v, kind, n)
			}
		}
	}
}

// P21.3: an entry of an index is in the list that Among tells, if the filter is true of some of its attributes.
func TestAmong(t *testing.T) {
	r := rand.New(rand.NewSource(213))
	lists, in, out := 0, 0, 0
	for range 3000 {
		var types []string
		for _, typ := range mixed().Types {
			if r.Intn(3) > 0 {
				types = append(types, typ.Name)
			}
		}
		x, e := index.New(mixed(), types...)
		if e != api.OK {
			t.Fatal(e)
		}
		var entries [][]api.Attr
		for id := range 6 {
			entries = append(entries, someAttrs(t, r, mixed()))
			x.Put(id, entries[id])
		}
		for range 8 {
			f := someFilter(r, mixed(), 1+r.Intn(4))
			list, ok := plan.Among(x, f, r.Intn(8))
			if !ok {
				continue
			}
			lists++
			for id, attrs := range entries {
				some := slices.DeleteFunc(slices.Clone(attrs), func(api.Attr) bool { return r.Intn(4) == 0 })
				switch so := truth.Of(mixed(), f, some) == truth.True; {
				case so && !slices.Contains(list, id):
					t.Errorf("%+v is true of %q, which isn't among %v", f, some, list)
				case so:
					in++
				case !slices.Contains(list, id):
					out++
				}
			}
		}
	}
	if lists < 2000 || in < 1000 || out < 1000 {
		t.Errorf("too few: %d lists, %d that are in and true, %d that are out", lists, in, out)
	}
}

// P21.4: Not of And is Or of Not of each, Not of Or is And of them, and Not of Not is what there was.
func TestNots(t *testing.T) {
	r := rand.New(rand.NewSource(214))
	for range 10000 {
		list := someAttrs(t, r, mixed())
		var kids, nots []api.Filter
		var truths, turned []int
		for range r.Intn(4) {
			f := someFilter(r, mixed(), 1+r.Intn(3))
			v := truth.Of(mixed(), f, list)
			kids, nots = append(kids, f), append(nots, of(api.Not, f))
			truths, turned = append(truths, v), append(turned, truth.Not(v))
			is(t, fmt.Sprintf("Not of Not of %+v", f), truth.Of(mixed(), of(api.Not, of(api.Not, f)), list), v)
		}
		told := func(f api.Filter) int { return truth.Of(mixed(), f, list) }
		is(t, fmt.Sprintf("Not of And of %+v", kids), told(of(api.Not, of(api.And, kids...))), told(of(api.Or, nots...)))
		is(t, fmt.Sprintf("Not of Or of %+v", kids), told(of(api.Not, of(api.Or, kids...))), told(of(api.And, nots...)))
		is(t, fmt.Sprint("Not of And of ", truths), truth.Not(truth.And(truths...)), truth.Or(turned...))
		is(t, fmt.Sprint("Not of Or of ", truths), truth.Not(truth.Or(truths...)), truth.And(turned...))
		is(t, fmt.Sprintf("And of %+v", kids), told(of(api.And, kids...)), truth.And(truths...))
		is(t, fmt.Sprintf("Or of %+v", kids), told(of(api.Or, kids...)), truth.Or(truths...))
	}
}

// P1: filters that are very deep, that have one part in many places, and that have themselves among their parts.
func TestAnyDepth(t *testing.T) {
	list := full(t)
	told := func(f api.Filter) string { return word(truth.Of(mixed(), f, list)) }
	f := filter("(text=x)")
	for range 500001 {
		f = of(api.Not, of(api.And, of(api.Or, f)))
	}
	is(t, "very deep", told(f), "false")
	f = filter("(text=x)")
	for i := range 100 {
		f = of(i&1, f, f)
	}
	is(t, "in many places", told(f), "true")
	round := make([]api.Filter, 2)
	round[0], round[1] = of(api.And, round...), filter("(text=y)")
	round[0].Kids = round
	is(t, "itself, And", told(round[0]), "false")
	round[0].Kind = api.Or
	is(t, "itself, Or", told(round[0]), "undefined")
	self := make([]api.Filter, 1)
	self[0] = api.Filter{Kind: api.Not, Kids: self}
	is(t, "itself, Not", told(self[0]), "undefined")
	self[0].Kind, self[0].Attr, self[0].Value = api.Equal, "text", "x"
	is(t, "itself, where it plays no part", told(of(api.And, self...)), "true")
	wide := of(api.Or)
	for range 200000 {
		wide.Kids = append(wide.Kids, filter("(text=y)"))
	}
	is(t, "very wide", told(wide), "false")
}

// P1: schemas that may not be, and attributes that aren't in form.
func TestStrange(t *testing.T) {
	f := filter("(|(&(cn=a)(cn>=a))(!(cn=a*))(cn=*))")
	for _, s := range []api.Schema{{}, {Types: []api.Type{{}}}, {Types: []api.Type{{Name: "cn"}}}, {Types: []api.Type{{Name: "cn", Syntax: -1}, {Name: "cn", Syntax: math.MaxInt}}}} {
		for _, list := range [][]api.Attr{nil, {{}}, {{Name: "cn"}}, {{Name: "CN", Values: []string{"", "\xff", "a", "a"}}, {Name: "cn", Values: []string{"b"}}}} {
			truth.Of(s, f, list)
			truth.Of(s, api.Filter{Kind: api.Present}, list)
		}
	}
	core := schema.Core()
	asked(t, core, []api.Attr{{Name: "cn"}, {Name: "sn", Values: []string{"\xff"}}}, map[string]string{"(cn=*)": "false", "(cn=a)": "false", "(sn=*)": "true", "(sn=a)": "false", "(sn=a*)": "false", "(sn>=)": "undefined"})
	// A value without a normal form is neither ahead of another one nor behind it, as layer 28 wants it.
	for _, c := range []struct {
		syn         int
		value, want string
	}{
		{api.Text, "a", "true"}, {api.Exact, "a", "true"}, {api.Ascii, "a", "true"}, {api.Number, "5", "true"}, {api.Time, "20240229120000Z", "true"},
		{api.Text, "", "undefined"}, {api.Number, "x", "undefined"}, {api.Truth, "TRUE", "undefined"}, {api.Name, "cn=a", "undefined"},
	} {
		s := api.Schema{Types: []api.Type{{Name: "cn", Syntax: c.syn}}}
		asked(t, s, []api.Attr{{Name: "cn", Values: []string{"\xff"}}}, map[string]string{"(cn>=" + c.value + ")": c.want, "(cn<=" + c.value + ")": c.want})
	}
}

// Memory: what is handed in stays as it is, spare room included.
func TestMemory(t *testing.T) {
	r := rand.New(rand.NewSource(7))
	for range 2000 {
		s, list, f := mixed(), someAttrs(t, r, mixed()), of(api.Or, someFilter(r, mixed(), 3), filter("(text=a*b)"))
		f.Kids = append(f.Kids, filter("(text=spare)"))[:2]
		list = append(list, api.Attr{Name: "spare"})[:len(list)]
		before := fmt.Sprintf("%#v %#v %#v %#v", s, f, f.Kids[:3], list[:len(list)+1])
		truth.Of(s, f, list)
		is(t, "what was handed in", fmt.Sprintf("%#v %#v %#v %#v", s, f, f.Kids[:3], list[:len(list)+1]), before)
	}
	numbers := []int{truth.True, truth.Undefined, 7, truth.False}
	truth.And(numbers[:3]...)
	truth.Or(numbers[:3]...)
	is(t, "numbers that were handed in", fmt.Sprint(numbers), "[1 2 7 0]")
}
