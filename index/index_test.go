package index_test

import (
	"fmt"
	"math"
	"slices"
	"strings"
	"testing"

	"castellan/api"
	"castellan/index"
	"castellan/schema"
)

// The chapter's example.
func TestExample(t *testing.T) {
	x := made(t, schema.Core(), "cn")
	x.Put(1, attrs("cn:abcd"))
	x.Put(2, attrs("cn:xabc"))
	is(t, "Any ABC", ids(x.Like("cn", pieces("ABC")...)), "1 2")
	is(t, "Any bcd", ids(x.Like("cn", pieces("bcd")...)), "1")
}

// P19.1: New, and what is wrong with types.
func TestNew(t *testing.T) {
	for _, c := range []struct {
		types string
		want  api.Errno
	}{
		{"", api.OK}, {"cn", api.OK}, {"CN", api.OK}, {"cn sn member userPassword active", api.OK}, {"OBJECTCLASS", api.OK},
		{"no", api.ErrName}, {"cn no", api.ErrName}, {"no cn cn", api.ErrName}, {"person", api.ErrName}, {"cnn", api.ErrName}, {"c", api.ErrName},
		{"cn cn", api.ErrTwice}, {"cn CN", api.ErrTwice}, {"userPassword sn USERpassword", api.ErrTwice}, {"cn sn cn", api.ErrTwice},
		{"cn cn no", api.ErrTwice}, {"cn no cn", api.ErrName}, {"no no", api.ErrName},
	} {
		x, e := index.New(schema.Core(), strings.Fields(c.types)...)
		is(t, "New of "+c.types, e, c.want)
		is(t, "an index of "+c.types, x != nil, c.want == api.OK)
	}
	for _, name := range []string{"", " cn", "cn ", "\u212an", "é", "cn\x00", strings.Repeat("a", 1<<20)} {
		_, e := index.New(schema.Core(), "sn", name)
		is(t, fmt.Sprintf("New of %.20q", name), e, api.ErrName)
	}
	_, e := index.New(schema.Core(), names(schema.Core())...)
	is(t, "all types", e, api.OK)
	_, e = index.New(schema.Core(), append(names(schema.Core()), "cn")...)
	is(t, "all types, and one again", e, api.ErrTwice)
	_, e = index.New(api.Schema{}, "cn")
	is(t, "of a schema without types", e, api.ErrName)
	x, e := index.New(api.Schema{})
	is(t, "of no types", e, api.OK)
	x.Put(3, attrs("cn:a"))
	is(t, "all", ids(x.All()), "3")
	is(t, "not indexed", ids(x.Present("cn")), "")
}

// P19.1: Has and Texts, of each syntax; letters' size plays no part.
func TestHas(t *testing.T) {
	full, none := made(t, mixed(), names(mixed())...), made(t, mixed())
	for _, typ := range mixed().Types {
		texts := typ.Syntax == api.Text || typ.Syntax == api.Exact || typ.Syntax == api.Ascii
		for _, name := range []string{typ.Name, strings.ToUpper(typ.Name), strings.ToLower(typ.Name)} {
			is(t, "has "+name, full.Has(name), true)
			is(t, "texts of "+name, full.Texts(name), texts)
			is(t, "has of none "+name, none.Has(name), false)
			is(t, "texts of none "+name, none.Texts(name), false)
		}
		alone := made(t, mixed(), strings.ToUpper(typ.Name))
		for _, other := range mixed().Types {
			is(t, typ.Name+" alone has "+other.Name, alone.Has(other.Name), other.Name == typ.Name)
			is(t, typ.Name+" alone has texts of "+other.Name, alone.Texts(other.Name), texts && other.Name == typ.Name)
		}
	}
	for _, name := range []string{"", "no", " text", "text ", "tex", "textt", "\xff"} {
		is(t, "has "+name, full.Has(name), false)
		is(t, "texts of "+name, full.Texts(name), false)
	}
}

// P19.1: entries come, are replaced, and go; lists rise, whatever the IDs.
func TestPut(t *testing.T) {
	x := made(t, mixed(), "text", "exact")
	is(t, "nobody", ids(x.All()), "")
	x.Drop(1)
	is(t, "nobody dropped", ids(x.All()), "")
	for _, id := range []int{7, -3, 0, math.MaxInt, 12, math.MinInt, 3} {
		x.Put(id, attrs("text:a"))
	}
	rising := fmt.Sprint(math.MinInt, " -3 0 3 7 12 ", math.MaxInt)
	is(t, "all", ids(x.All()), rising)
	is(t, "present", ids(x.Present("text")), rising)
	is(t, "equal", ids(x.Equal("text", "A")), rising)
	is(t, "like", ids(x.Like("text")), rising)
	x.Put(3, attrs("exact:a", "text:b,c"))
	is(t, "all as before", ids(x.All()), rising)
	is(t, "has the old value no more", ids(x.Equal("text", "a")), fmt.Sprint(math.MinInt, " -3 0 7 12 ", math.MaxInt))
	is(t, "has new ones", ids(x.Equal("text", "b"))+" "+ids(x.Equal("text", "c"))+" "+ids(x.Equal("exact", "a")), "3 3 3")
	x.Put(3, nil)
	is(t, "has nothing", ids(x.Equal("text", "b"))+ids(x.Present("exact"))+ids(x.Equal("text", "c")), "")
	is(t, "is there still", ids(x.All()), rising)
	x.Drop(math.MinInt)
	x.Drop(0)
	x.Drop(5)
	x.Drop(0)
	is(t, "some gone", ids(x.All()), fmt.Sprint("-3 3 7 12 ", math.MaxInt))
	is(t, "present of those left", ids(x.Present("text")), fmt.Sprint("-3 7 12 ", math.MaxInt))
	is(t, "equal of those left", ids(x.Equal("text", "a")), fmt.Sprint("-3 7 12 ", math.MaxInt))
	x.Put(0, attrs("text:zz"))
	is(t, "come again", ids(x.Equal("text", "zz")), "0")
	is(t, "as it was once", ids(x.Equal("text", "a")), fmt.Sprint("-3 7 12 ", math.MaxInt))
	for _, id := range x.All() {
		x.Drop(id)
	}
	is(t, "all gone", ids(x.All())+ids(x.Present("text"))+ids(x.Equal("text", "a"))+ids(x.Like("text", pieces("a")...)), "")
}

// P19.1, P19.2: an entry whose values share a normal form's beginning, a gram, or all with another one's, goes alone.
func TestDropShared(t *testing.T) {
	x := made(t, mixed(), "text")
	x.Put(1, attrs("text:abcabc,xabc"))
	x.Put(2, attrs("text:abc,abcabc"))
	is(t, "both", ids(x.Like("text", pieces("abc")...))+", "+ids(x.Equal("text", "abcabc")), "1 2, 1 2")
	x.Drop(1)
	is(t, "the second one", ids(x.Like("text", pieces("abc")...))+", "+ids(x.Equal("text", "abcabc")), "2, 2")
	is(t, "what it hasn't", ids(x.Like("text", pieces("xab")...))+ids(x.Equal("text", "xabc")), "")
	x.Put(2, attrs("text:abcd"))
	is(t, "another value", ids(x.Like("text", pieces("abc")...))+", "+ids(x.Like("text", pieces("bca")...))+", "+ids(x.Equal("text", "abc")), "2, , ")
	x.Drop(2)
	is(t, "none", ids(x.Like("text", pieces("abc")...)), "")
}

// P19.2: Present is of those that have the attribute, each type by itself.
func TestPresent(t *testing.T) {
	x := made(t, mixed(), "text", "other-text", "OCTETS")
	x.Put(1, attrs("Other-Text:a", "text:b"))
	x.Put(2, attrs("Other-Text:a", "exact:b"))
	x.Put(3, attrs("octets:"))
	is(t, "text", ids(x.Present("TEXT")), "1")
	is(t, "other text", ids(x.Present("other-TEXT")), "1 2")
	is(t, "an empty value", ids(x.Present("octets")), "3")
	is(t, "not indexed", ids(x.Present("exact")), "")
	is(t, "no type", ids(x.Present("no"))+ids(x.Present("")), "")
}

// P19.2: Equal is by normal forms; none, where there is none.
func TestEqual(t *testing.T) {
	x := made(t, mixed(), names(mixed())...)
	x.Put(1, attrs("ascii:", "exact:A  b", "name:CN=A\\2C b+ou=C", "number:10", "octets:\xff", "text: A  b", "time:20240229000000Z", "truth:TRUE"))
	x.Put(2, attrs("ascii:a B", "exact:a b", "name:cn=x", "number:-10", "octets:", "text:É", "time:19991231235959Z", "truth:FALSE"))
	for _, c := range []struct{ name, value, want string }{
		{"text", "a b", "1"}, {"TEXT", "A B ", "1"}, {"text", "ab", ""}, {"text", "", ""}, {"text", "a", ""}, {"text", "É", "2"}, {"text", "é", ""}, {"text", "\xff", ""},
		{"exact", "A  b", "1"}, {"exact", "a b", "2"}, {"exact", "A b", ""}, {"exact", "", ""},
		{"ascii", "", "1"}, {"ascii", "   ", "1"}, {"ascii", "A  B", "2"}, {"ascii", "é", ""}, {"ascii", strings.Repeat(" ", 4096), "1"}, {"ascii", strings.Repeat(" ", 4097), ""},
		{"number", "10", "1"}, {"number", "-10", "2"}, {"number", "010", ""}, {"number", "", ""}, {"number", "+10", ""},
		{"truth", "TRUE", "1"}, {"truth", "FALSE", "2"}, {"truth", "true", ""},
		{"name", "OU=c+cn=A\\, b", "1"}, {"name", "CN=X", "2"}, {"name", "", ""}, {"name", "cn", ""},
		{"octets", "\xff", "1"}, {"octets", "", "2"}, {"octets", "\xfe", ""},
		{"time", "20240229000000Z", "1"}, {"time", "20230229000000Z", ""},
		{"no", "a b", ""}, {"", "", ""},
	} {
		is(t, fmt.Sprintf("%s=%.20q", c.name, c.value), ids(x.Equal(c.name, c.value)), c.want)
	}
}

// P19.2: a value without a normal form isn't the one of an empty one, nor the empty text's entry.
func TestEqualNone(t *testing.T) {
	x := made(t, mixed(), "octets", "ascii", "number")
	x.Put(1, attrs("ascii:", "octets:"))
	is(t, "of the empty one", ids(x.Equal("ascii", " ")), "1")
	is(t, "too long", ids(x.Equal("octets", strings.Repeat("a", 4097))), "")
	is(t, "no ascii", ids(x.Equal("ascii", "\x80")), "")
	is(t, "no number", ids(x.Equal("number", "")), "")
}

// P19.2: Like is of those that have each gram in some value, not the same one for all.
func TestLike(t *testing.T) {
	x := made(t, mixed(), "text", "exact", "ascii")
	x.Put(1, attrs("text:abcd,xyz"))
	x.Put(2, attrs("text:ab  CD"))
	x.Put(3, attrs("text:b,zabcz"))
	x.Put(4, attrs("exact:abcd,ABxy", "ascii:"))
	x.Put(5, attrs("ascii:AbCd"))
	for _, c := range []struct {
		name, want string
		pieces     []api.Piece
	}{
		{"text", "1 2 3", nil},
		{"text", "1 2 3", pieces("")},
		{"text", "1 2 3", pieces("zz", "q", "")},
		{"text", "1 3", pieces("ABC")},
		{"text", "1", pieces("abcd")},
		{"text", "1", pieces("abc", "Xyz")},
		{"text", "1", pieces("xyz", "qq", "bcd")},
		{"text", "", pieces("xyz", "qqq", "bcd")},
		{"text", "", pieces("dxy")},
		{"text", "2", pieces("B c")},
		{"text", "", pieces("B  c")},
		{"text", "3", pieces("zabcz")},
		{"text", "3", pieces("bcz", "zab")},
		{"text", "", pieces("abcz", "xyz")},
		{"text", "", pieces("abcdabcd")},
		{"text", "1 2 3", []api.Piece{{Kind: 7, Text: "ab"}, {Kind: api.Final, Text: "x"}, {Kind: api.Initial, Text: "x"}}},
		{"text", "1 3", []api.Piece{{Kind: api.Final, Text: "ABC"}}},
		{"text", "3", []api.Piece{{Kind: api.Initial, Text: "bcz"}}},
		{"exact", "4", pieces("abc", "Bxy")},
		{"exact", "", pieces("ABC")},
		{"exact", "", pieces("bxy")},
		{"ascii", "4 5", pieces("ab")},
		{"ascii", "5", pieces("BCD")},
		{"no", "", pieces("abc")},
		{"number", "", nil},
	} {
		is(t, fmt.Sprint(c.name, " ", c.pieces), ids(x.Like(c.name, c.pieces...)), c.want)
		is(t, fmt.Sprint("in other letters ", c.name, " ", c.pieces), ids(x.Like(strings.ToUpper(c.name), c.pieces...)), c.want)
	}
}

// P19.2: Like goes by normal forms, also of syntaxes whose values can't be asked for pieces.
func TestLikeOthers(t *testing.T) {
	x := made(t, mixed(), names(mixed())...)
	x.Put(1, attrs("name:CN=Abc+DC=Z", "number:-1234", "octets:ABCabd", "time:20240229000000Z", "truth:TRUE"))
	x.Put(2, attrs("name:cn=a", "number:1", "octets:\x00\xff\x00", "time:19991231235959Z", "truth:FALSE"))
	for _, c := range []struct{ name, text, want string }{
		{"name", "=ABC", "1"}, {"name", "Cn=A", "1 2"}, {"name", "c+D", "1"}, {"name", "abcd", ""},
		{"number", "234", "1"}, {"number", "-12", "1"}, {"number", "1", "1 2"},
		{"octets", "ABD", "1"}, {"octets", "ABC", ""}, {"octets", "Cab", ""}, {"octets", "\x00\xff\x00", "2"},
		{"time", "000Z", ""}, {"time", "0229", "1"}, {"time", "959", "2"},
		{"truth", "TRUE", ""}, {"truth", "TR", "1 2"},
	} {
		is(t, c.name+" "+c.text, ids(x.Like(c.name, pieces(c.text)...)), c.want)
	}
}

// Memory: what is handed in is neither changed nor kept, and what is answered is other memory.
func TestMemory(t *testing.T) {
	types := []string{"text", "exact", "no"}
	s := mixed()
	x := made(t, s, types[:2]...)
	is(t, "the types", strings.Join(types, " "), "text exact no")
	is(t, "the schema", fmt.Sprint(s), fmt.Sprint(mixed()))
	for i := range s.Types {
		s.Types[i] = api.Type{Name: "other", Syntax: api.Number}
	}
	types[0], types[1] = "number", "number"
	list := append(attrs("exact:A,abcd", "text:abc,spare"), api.Attr{Name: "spare"})
	list[1].Values = list[1].Values[:1]
	before := fmt.Sprint(list, list[1].Values[:2])
	for id := range 9 {
		x.Put(id, list[:2])
	}
	ask := pieces("abc", "spare")
	asked := func() string {
		return fmt.Sprint(x.All(), x.Present("text"), x.Equal("text", "ABC"), x.Like("text", ask[:1]...), x.Like("exact"), x.Texts("exact"), x.Has("number"))
	}
	first := asked()
	is(t, "asked", first, strings.Repeat("[0 1 2 3 4 5 6 7 8] ", 5)+"true false")
	is(t, "the attributes", fmt.Sprint(list, list[1].Values[:2]), before)
	is(t, "the pieces", fmt.Sprint(ask), fmt.Sprint(pieces("abc", "spare")))
	list[0].Name, list[1].Values[0] = "x", "y"
	for _, answer := range [][]int{x.All(), x.Present("text"), x.Equal("text", "abc"), x.Like("text", ask...), x.Like("exact")} {
		answer = answer[:cap(answer)]
		for i := range answer {
			answer[i] = -1
		}
	}
	is(t, "asked again", asked(), first)
	x.Drop(4)
	is(t, "dropped", ids(x.Equal("exact", "abcd")), "0 1 2 3 5 6 7 8")
}

// Of a nil index: none, false, nothing.
func TestNil(t *testing.T) {
	var x *index.Index
	x.Put(1, attrs("cn:a"))
	x.Drop(1)
	is(t, "Has", x.Has("cn"), false)
	is(t, "Texts", x.Texts("cn"), false)
	is(t, "lists", len(x.All())+len(x.Present("cn"))+len(x.Equal("cn", "a"))+len(x.Like("cn"))+len(x.Like("cn", pieces("abc")...)), 0)
}

// P1: attributes that aren't in form, and schemas that may not be: no call panics, and who is dropped is in no list.
func TestStrange(t *testing.T) {
	long := strings.Repeat("a", 1<<20)
	twice := api.Schema{Types: []api.Type{{Name: "a", Syntax: api.Number}, {Name: "A", Syntax: api.Text}, {Name: "", Syntax: 77}, {Name: "b", Syntax: -1}}}
	for _, s := range []api.Schema{mixed(), twice, {}, schema.Core()} {
		x, e := index.New(s, names(s)...)
		if e != api.OK {
			x, _ = index.New(s)
		}
		lists := [][]api.Attr{nil, attrs("text"), attrs("text:", "text:a"), attrs("no:a", ":b", "number:x,1,1,01", "a:1,b", "A:b"), attrs("cn:a,A, a", "\xff:\xff", "name:,,"), {{Name: long, Values: []string{long}}, {Name: "text", Values: []string{long, "aaa"}}}, make([]api.Attr, 1000)}
		for id, list := range lists {
			x.Put(id, list)
			x.Put(id, slices.Concat(list, list))
		}
		told := func() (out []int) {
			for _, name := range append(names(s), "", "no", long, "\xff") {
				for _, value := range []string{"", "a", "1", "x", long, "\xff"} {
					out = slices.Concat(out, x.Equal(name, value), x.Like(name, pieces(value, "aaa")...), x.Present(name), x.Like(name))
				}
			}
			return out
		}
		for _, id := range told() {
			if id < 0 || id >= len(lists) {
				t.Errorf("there is no %d", id)
			}
		}
		for id := range lists {
			x.Drop(id)
		}
		is(t, "all", len(x.All()), 0)
		is(t, "those in lists", len(told()), 0)
	}
}
