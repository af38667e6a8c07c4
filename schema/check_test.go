package schema_test

import (
	"fmt"
	"math/rand"
	"strings"
	"testing"

	"castellan/api"
	"castellan/schema"
)

// root answers the type that every schema has.
func root() api.Type { return api.Type{Name: "objectClass", Syntax: api.Ascii} }

// text answers a type of the syntax Text.
func text(name string) api.Type { return api.Type{Name: name, Syntax: api.Text} }

// types answers a schema of types alone.
func types(list ...api.Type) api.Schema { return api.Schema{Types: list} }

// many answers a schema of objectClass, so many types more, and so many classes.
func many(n int) api.Schema {
	s := with("")
	for i := range n {
		s.Types = append(s.Types, text(fmt.Sprint("t", i)))
		s.Classes = append(s.Classes, api.Class{Name: fmt.Sprint("c", i)})
	}
	return s
}

// checked: Check answers of s what is wanted; so does another way to say it.
func checked(t *testing.T, what string, s api.Schema, want api.Errno) {
	t.Helper()
	is(t, what, schema.Check(s), want)
	is(t, what+", said in another way", plainCheck(s), want)
}

// P13.1: Check of schemas that may be.
func TestCheckOK(t *testing.T) {
	x := class("x", "", 0, "", "")
	for what, s := range map[string]api.Schema{
		"Core":                          schema.Core(),
		"a type alone":                  types(root()),
		"in other letters":              types(api.Type{Name: "OBJECTclass", Syntax: api.Ascii}),
		"operational":                   types(api.Type{Name: "objectClass", Syntax: api.Ascii, Oper: true}),
		"at the end":                    types(api.Type{Name: "a", Syntax: api.Time, Single: true}, root()),
		"classes named as types":        with("a", class("a", "", 0, "A", "a a"), class("objectClass", "A", 1, "OBJECTCLASS", "")),
		"no Sup":                        with("", x, class("y", "", 0, "", "")),
		"Abstract above all":            with("", x, class("y", "x", 0, "", ""), class("z", "Y", 1, "", ""), class("u", "X", 2, "", "")),
		"Structural above Structural":   with("", x, class("y", "x", 1, "", ""), class("z", "y", 1, "", "")),
		"Auxiliary above Auxiliary":     with("", x, class("y", "x", 2, "", ""), class("z", "y", 2, "", "")),
		"a type both in Must and May":   with("a b", class("x", "", 0, "a b a", "b a b")),
		"names of 32 letters":           with(strings.Repeat("a", 32), class(strings.Repeat("b-9", 10)+"zz", "", 0, strings.Repeat("A", 32), "")),
		"names that are nearly alike":   with("a a- a-a aa", x, class("xx", "", 0, "", "")),
		"128 types and as many classes": {Types: many(127).Types, Classes: many(128).Classes},
	} {
		checked(t, what, s, api.OK)
	}
}

// P13.1: too many types or classes, ahead of whatever else.
func TestCheckMany(t *testing.T) {
	is(t, "MaxTypes", api.MaxTypes, 128)
	checked(t, "129 types and 128 classes", many(128), api.ErrMany)
	checked(t, "129 types alone", types(many(128).Types...), api.ErrMany)
	checked(t, "128 types alone", types(many(127).Types...), api.OK)
	checked(t, "129 classes", api.Schema{Types: with("").Types, Classes: many(129).Classes}, api.ErrMany)
	checked(t, "129 bad types", types(make([]api.Type, 129)...), api.ErrMany)
	checked(t, "128 bad types", types(make([]api.Type, 128)...), api.ErrName)
	checked(t, "129 bad classes behind a bad type", api.Schema{Types: make([]api.Type, 1), Classes: make([]api.Class, 129)}, api.ErrMany)
	checked(t, "a great many", types(make([]api.Type, 100000)...), api.ErrMany)
}

// strangers are names that are no types.
var strangers = []string{"", "1a", "-a", "a_b", "a b", " a", "é", "aé", "a\x00", "\u212a", strings.Repeat("a", 33), strings.Repeat("a", 1<<20), "a;x", "1.2.3"}

// P13.1: what may be wrong with types, and what is told first.
func TestCheckTypes(t *testing.T) {
	for _, name := range strangers {
		checked(t, fmt.Sprintf("a type %.40q", name), types(root(), text(name)), api.ErrName)
		checked(t, fmt.Sprintf("a type %.40q twice, of no syntax", name), types(api.Type{Name: name}, api.Type{Name: name}, root()), api.ErrName)
	}
	for _, syn := range []int{0, 9, -1, 10, 256 + api.Text, 1<<32 + api.Text, -1 << 63, 1<<63 - 1} {
		checked(t, fmt.Sprint("syntax ", syn), types(root(), api.Type{Name: "a", Syntax: syn}), api.ErrValue)
		checked(t, fmt.Sprint("syntax of objectClass ", syn), types(api.Type{Name: "objectClass", Syntax: syn}), api.ErrValue)
	}
	for syn := api.Text; syn <= api.Time; syn++ {
		checked(t, fmt.Sprint("syntax ", syn), types(root(), api.Type{Name: "a", Syntax: syn}), api.OK)
	}
	checked(t, "twice", types(root(), text("a"), text("a")), api.ErrTwice)
	checked(t, "twice in other letters", types(text("a-Bz"), root(), text("A-bZ")), api.ErrTwice)
	checked(t, "objectClass twice", types(root(), text("OBJECTCLASS")), api.ErrTwice)
	checked(t, "twice, of no syntax", types(root(), text("a"), api.Type{Name: "A"}), api.ErrTwice)
	checked(t, "of no syntax, then twice", types(root(), api.Type{Name: "a"}, text("A")), api.ErrValue)
	checked(t, "of no syntax, then no name", types(api.Type{Name: "a"}, text("")), api.ErrValue)
	checked(t, "twice, then no name", types(text("a"), text("a"), text("")), api.ErrTwice)
	checked(t, "no name, then twice", types(text("a"), text(""), text("a")), api.ErrName)
}

// P13.1: what may be wrong with a class's name and kind, and what is told first.
func TestCheckClasses(t *testing.T) {
	x := class("x", "", 0, "", "")
	for _, name := range strangers {
		checked(t, fmt.Sprintf("a class %.40q", name), with("", class(name, "", 0, "", "")), api.ErrName)
		checked(t, fmt.Sprintf("a class %.40q with all that may be wrong", name), with("", class(name, "y", 7, "no", "no")), api.ErrName)
	}
	for _, kind := range []int{-1, 3, 4, 256, 1 << 32, -1 << 63, 1<<63 - 1} {
		checked(t, fmt.Sprint("kind ", kind), with("", class("x", "", kind, "", "")), api.ErrValue)
		checked(t, fmt.Sprint("kind beneath a class ", kind), with("", x, class("y", "x", kind, "", "")), api.ErrValue)
		checked(t, fmt.Sprint("kind, of a wrong Sup ", kind), with("", class("y", "no", kind, "no", "no")), api.ErrValue)
	}
	checked(t, "twice", with("", x, x), api.ErrTwice)
	checked(t, "twice in other letters", with("", class("a-Bz", "", 0, "", ""), x, class("A-bZ", "", 0, "", "")), api.ErrTwice)
	checked(t, "twice, of no kind", with("", x, class("X", "no", 7, "no", "no")), api.ErrTwice)
	checked(t, "of no kind, then twice", with("", class("x", "", 7, "", ""), x), api.ErrValue)
	checked(t, "a Must that is none, then no name", with("", class("x", "", 0, "no", ""), class("", "", 0, "", "")), api.ErrNone)
	checked(t, "a class ahead of objectClass that lacks", api.Schema{Classes: []api.Class{class("", "", 0, "", "")}}, api.ErrName)
	checked(t, "a type ahead of a class", api.Schema{Types: []api.Type{text("a"), text("a")}, Classes: []api.Class{class("", "", 0, "", "")}}, api.ErrTwice)
}

// P13.1: what may be wrong with a class's Sup, and what is told first.
func TestCheckSup(t *testing.T) {
	names := []string{"Abstract", "Structural", "Auxiliary"}
	for above := range 3 {
		for kind := range 3 {
			want, thenNone := api.ErrArg, api.ErrArg
			if above == api.Abstract || above == kind {
				want, thenNone = api.OK, api.ErrNone
			}
			s := with("", class("top", "", 0, "", ""), class("x", "top", above, "", ""), class("y", "X", kind, "", ""))
			checked(t, names[above]+" above "+names[kind], s, want)
			s.Classes[2].Must = words("no")
			checked(t, names[above]+" above "+names[kind]+" with a Must that is none", s, thenNone)
		}
	}
	x := class("x", "", 0, "", "")
	checked(t, "Abstract beneath Structural", with("", x, class("y", "x", 1, "", ""), class("z", "y", 0, "", "")), api.ErrArg)
	checked(t, "Structural without", with("", class("y", "", 1, "", "")), api.ErrArg)
	checked(t, "Auxiliary without", with("", x, class("y", "", 2, "", "")), api.ErrArg)
	checked(t, "without, with a Must that is none", with("", class("y", "", 1, "no", "")), api.ErrArg)
	checked(t, "none", with("", x, class("y", "z", 1, "", "")), api.ErrNone)
	checked(t, "none, of an Abstract one", with("", class("y", "z", 0, "", "")), api.ErrNone)
	checked(t, "itself", with("", class("x", "x", 0, "", "")), api.ErrNone)
	checked(t, "itself in other letters", with("", x, class("y", "Y", 1, "", "")), api.ErrNone)
	checked(t, "behind", with("", class("y", "x", 0, "", ""), x), api.ErrNone)
	checked(t, "behind, of another kind", with("", x, class("y", "z", 1, "", ""), class("z", "x", 2, "", "")), api.ErrNone)
	checked(t, "round", with("", class("x", "y", 0, "", ""), class("y", "x", 0, "", "")), api.ErrNone)
	checked(t, "no name", with("", x, class("y", "é", 1, "", "")), api.ErrNone)
	checked(t, "a type's", with("a", x, class("y", "a", 1, "", "")), api.ErrNone)
	checked(t, "none, ahead of another class's name", with("", class("y", "z", 0, "", ""), class("", "", 0, "", "")), api.ErrNone)
	checked(t, "without, ahead of a class without a name", with("", class("y", "", 1, "", ""), class("", "", 0, "", "")), api.ErrArg)
}

// P13.1: Must and May that are no types', and objectClass.
func TestCheckNames(t *testing.T) {
	for _, c := range []struct {
		must, may string
		want      api.Errno
	}{
		{"a", "b", api.OK}, {"A OBJECTCLASS", "B", api.OK}, {"c", "", api.ErrNone}, {"", "c", api.ErrNone}, {"a b c", "a", api.ErrNone}, {"a", "a b x", api.ErrNone}, {"x", "", api.ErrNone}, {"é", "", api.ErrNone}, {"", "a_", api.ErrNone},
	} {
		checked(t, c.must+", "+c.may, with("a b", class("x", "", 0, c.must, c.may)), c.want)
	}
	empty := with("a", class("x", "", 0, "", ""))
	empty.Classes[0].May = []string{""}
	checked(t, "an empty name", empty, api.ErrNone)
	checked(t, "nothing", api.Schema{}, api.ErrNone)
	checked(t, "no objectClass", types(text("objectClas"), text("objectClassx")), api.ErrNone)
	checked(t, "a class objectClass alone", api.Schema{Classes: []api.Class{{Name: "objectClass"}}}, api.ErrNone)
	checked(t, "a class's fault ahead of objectClass", api.Schema{Types: []api.Type{text("objectClass")}, Classes: []api.Class{class("x", "", 0, "no", "")}}, api.ErrNone)
	for syn := api.Text; syn <= api.Time; syn++ {
		want := api.ErrArg
		if syn == api.Ascii {
			want = api.OK
		}
		checked(t, fmt.Sprint("objectClass of ", syn), types(api.Type{Name: "ObjectClass", Syntax: syn}), want)
		checked(t, fmt.Sprint("objectClass Single of ", syn), types(api.Type{Name: "objectClass", Syntax: syn, Single: true}), api.ErrArg)
	}
	checked(t, "a great many names", with("a", class("x", "", 0, strings.Repeat("a ", 100000), strings.Repeat("A ", 100000))), api.OK)
	checked(t, "and one that is none", with("a", class("x", "", 0, strings.Repeat("a ", 100000), strings.Repeat("A ", 100000)+"b")), api.ErrNone)
}

// P13.1, P1: Check of schemas by chance, and of such as were spoiled, is as said in another way; nothing that can be
// asked of them panics.
func TestCheckSome(t *testing.T) {
	r := rand.New(rand.NewSource(13))
	count := map[api.Errno]int{}
	for range 3000 {
		s := someSchema(r)
		checked(t, "by chance", s, api.OK)
		for range 1 + r.Intn(3) {
			s = spoiled(r, s)
		}
		e := plainCheck(s)
		is(t, fmt.Sprintf("%+v", s), schema.Check(s), e)
		everything(t, s, "c0", "C9", "a", "", "no", "c5")
		count[e]++
	}
	for _, e := range []api.Errno{api.OK, api.ErrName, api.ErrTwice, api.ErrValue, api.ErrNone, api.ErrArg} {
		if count[e] < 50 {
			t.Errorf("too few with %v: %v", e, count)
		}
	}
}

// P1: schemas that may not be: chains that would go round, names twice, empty ones, none at all.
func TestStrange(t *testing.T) {
	for _, s := range []api.Schema{
		{},
		with("", class("x", "x", 1, "x", "x")),
		with("", class("x", "y", 1, "", ""), class("y", "x", 1, "", "")),
		with("", class("x", "y", 1, "", ""), class("y", "z", 1, "", ""), class("z", "x", 1, "", "")),
		with("", class("x", "", 1, "", ""), class("x", "x", 1, "", ""), class("x", "x", 1, "", "")),
		with("", class("", "", 1, "", ""), class("", "", 1, "", ""), class("x", "", 1, "", "")),
		with("a a a", class("x", "no", 7, "no a", "A")),
		{Types: make([]api.Type, 1000), Classes: make([]api.Class, 1000)},
		types(api.Type{Name: "\xff\x00", Syntax: -1 << 63}),
	} {
		everything(t, s, "x", "y", "z", "", "X", "no", "\xff\x00", strings.Repeat("x", 1<<20))
		everything(t, s)
	}
}

// Memory: Check leaves a schema as it is, spare room, too; so does all that is asked of it, and what it answers is
// other memory.
func TestMemory(t *testing.T) {
	s := copied(schema.Core())
	before := whole(s)
	everything(t, s, "top", "PERSON", "inetPerson", "secured", "no")
	is(t, "what was handed in", whole(s), before)
	for _, name := range []string{"top", "person", "group"} {
		c, _ := schema.Class(s, name)
		for _, list := range [][]string{c.Must, c.May, schema.Chain(s, name)} {
			spoil(list)
		}
		must, may := schema.Wants(s, name)
		spoil(must)
		spoil(may)
	}
	lines, more := schema.Lines(s)
	spoil(lines)
	spoil(more)
	is(t, "what was handed in, when answers were changed", whole(s), before)
	must, may := schema.Wants(s, "group")
	is(t, "asked again", told(must)+"; "+told(may), "cn member objectclass; changedat createdat description pwdchanged pwdfailure pwdlocked")
	names := []string{"person", "top", "spare"}
	schema.Kind(s, names[:2]...)
	schema.Wants(s, names[:2]...)
	is(t, "the names", told(names), "person top spare")
}

// spoil writes over a list and all its spare room.
func spoil(list []string) {
	list = list[:cap(list)]
	for i := range list {
		list[i] = "spoiled"
	}
}
