package schema_test

import (
	"fmt"
	"math/rand"
	"reflect"
	"slices"
	"strings"
	"testing"

	"castellan/api"
	"castellan/schema"
)

// P13.2: Find and Class of all that Core has, however they are spelt.
func TestFind(t *testing.T) {
	s := schema.Core()
	for _, x := range s.Types {
		for _, name := range []string{x.Name, strings.ToUpper(x.Name), strings.ToLower(x.Name)} {
			got, ok := schema.Find(s, name)
			is(t, name, got, x)
			is(t, name, ok, true)
		}
	}
	for _, c := range s.Classes {
		for _, name := range []string{c.Name, strings.ToUpper(c.Name), strings.ToLower(c.Name)} {
			got, ok := schema.Class(s, name)
			is(t, name, fmt.Sprintf("%+v", got), fmt.Sprintf("%+v", c))
			is(t, name, ok, true)
		}
	}
}

// P13.2: names that are none.
func TestFindNone(t *testing.T) {
	s := schema.Core()
	for _, name := range []string{"", " ", "c", "cnx", " cn", "cn ", "cn\x00", "\x00", "person1", "perso", "tops", "k", "\u212a", "\xff", "objectClass\n", strings.Repeat("cn", 1<<19)} {
		x, ok := schema.Find(s, name)
		is(t, fmt.Sprintf("Find %.40q", name), x, api.Type{})
		is(t, fmt.Sprintf("Find %.40q", name), ok, false)
		c, ok := schema.Class(s, name)
		is(t, fmt.Sprintf("Class %.40q", name), reflect.DeepEqual(c, api.Class{}), true)
		is(t, fmt.Sprintf("Class %.40q", name), ok, false)
		is(t, fmt.Sprintf("Chain %.40q", name), len(schema.Chain(s, name)), 0)
	}
	for _, c := range s.Classes {
		_, ok := schema.Find(s, c.Name)
		is(t, "a class is no type: "+c.Name, ok, false)
	}
	for _, x := range s.Types {
		_, ok := schema.Class(s, x.Name)
		is(t, "a type is no class: "+x.Name, ok, false)
	}
	// A letter of another alphabet that is a k when it is small: no size of k.
	kelvin := with("k", class("k", "", 0, "", ""))
	_, ok := schema.Find(kelvin, "\u212a")
	is(t, "another K", ok, false)
	_, ok = schema.Find(kelvin, "K")
	is(t, "K", ok, true)
}

// P13.2: Chain of all classes of Core.
func TestChain(t *testing.T) {
	for name, want := range map[string]string{
		"top": "top", "DOMAIN": "domain top", "organization": "organization top", "organizationalunit": "organizationalUnit top", "person": "person top",
		"INETPERSON": "inetPerson person top", "group": "group top", "Secured": "secured top", "labelled": "labelled top",
	} {
		is(t, name, told(schema.Chain(schema.Core(), name)), want)
	}
	long := with("", class("C0", "", 0, "", ""))
	want := "C0"
	for i := 1; i < 128; i++ {
		long.Classes = append(long.Classes, class(fmt.Sprint("C", i), fmt.Sprint("c", i-1), 1, "", ""))
		want = fmt.Sprint("C", i, " ") + want
	}
	is(t, "it may be", schema.Check(long), api.OK)
	is(t, "a long one", told(schema.Chain(long, "c127")), want)
}

// P13.3: Wants of classes of Core.
func TestWants(t *testing.T) {
	oper := "changedat createdat %s pwdchanged pwdfailure pwdlocked"
	for classes, want := range map[string]string{
		"":                        "; ",
		"no":                      "; ",
		"top":                     "objectclass; changedat createdat pwdchanged pwdfailure pwdlocked",
		"group":                   "cn member objectclass; " + fmt.Sprintf(oper, "description"),
		"group no":                "cn member objectclass; " + fmt.Sprintf(oper, "description"),
		"GROUP group":             "cn member objectclass; " + fmt.Sprintf(oper, "description"),
		"domain":                  "dc objectclass; " + fmt.Sprintf(oper, "description"),
		"secured":                 "objectclass userpassword; changedat createdat pwdchanged pwdfailure pwdlocked",
		"person":                  "cn objectclass sn; changedat createdat description pwdchanged pwdfailure pwdlocked userpassword",
		"person secured":          "cn objectclass sn userpassword; " + fmt.Sprintf(oper, "description"),
		"secured person":          "cn objectclass sn userpassword; " + fmt.Sprintf(oper, "description"),
		"labelled":                "objectclass; changedat createdat mail pwdchanged pwdfailure pwdlocked uid",
		"inetPerson":              "cn objectclass sn; active changedat createdat description employeenumber mail pwdchanged pwdfailure pwdlocked uid userpassword",
		"secured inetPerson no":   "cn objectclass sn userpassword; active changedat createdat description employeenumber mail pwdchanged pwdfailure pwdlocked uid",
		"organizationalUnit":      "objectclass ou; " + fmt.Sprintf(oper, "description"),
		"organization group":      "cn member o objectclass; " + fmt.Sprintf(oper, "description"),
		"person person PERSON no": "cn objectclass sn; changedat createdat description pwdchanged pwdfailure pwdlocked userpassword",
	} {
		must, may := schema.Wants(schema.Core(), words(classes)...)
		is(t, classes, told(must)+"; "+told(may), want)
	}
	s := with("B a c", class("x", "", 0, "B OBJECTCLASS b", "a C A"), class("y", "x", 1, "A", "b B objectClass c"))
	must, may := schema.Wants(s, "y")
	is(t, "what must be above and below", told(must)+"; "+told(may), "a b objectclass; c")
	must, may = schema.Wants(s, "x")
	is(t, "of the upper one", told(must)+"; "+told(may), "b objectclass; a c")
}

// P13.4: Kind of classes of Core.
func TestKind(t *testing.T) {
	for classes, want := range map[string]string{
		"top PERSON inetPerson":      "inetPerson",
		"inetPerson person top":      "inetPerson",
		"person":                     "person",
		"PERSON":                     "person",
		"person person Person":       "person",
		"INETPERSON":                 "inetPerson",
		"secured person":             "person",
		"secured labelled group top": "group",
		"person inetPerson person labelled secured": "inetPerson",
		"":                             "none",
		"top":                          "none",
		"secured":                      "none",
		"top secured labelled":         "none",
		"person group":                 "none",
		"group person":                 "none",
		"inetPerson group":             "none",
		"person inetPerson group":      "none",
		"group inetPerson person":      "none",
		"domain organization":          "none",
		"no":                           "none",
		"person no":                    "none",
		"no person":                    "none",
		"top no":                       "none",
		"inetPerson person cn":         "none",
		"domain organization no group": "none",
	} {
		is(t, classes, kind(schema.Core(), words(classes)...), want)
	}
	is(t, "an empty name", kind(schema.Core(), "person", ""), "none")
	is(t, "a great many", kind(schema.Core(), words(strings.Repeat("person inetPerson ", 50000))...), "inetPerson")
	is(t, "a great many of two", kind(schema.Core(), words(strings.Repeat("person ", 50000)+strings.Repeat("group ", 50000))...), "none")
	// Three in a row, and a branch beside them.
	s := with("", class("t", "", 0, "", ""), class("A", "t", 1, "", ""), class("B", "a", 1, "", ""), class("C", "b", 1, "", ""), class("D", "b", 1, "", ""))
	for classes, want := range map[string]string{
		"a b c": "C", "c b a": "C", "a c": "C", "b d": "D", "d a": "D", "c d": "none", "a b c d": "none", "a b": "B", "t a": "A",
	} {
		is(t, classes, kind(s, words(classes)...), want)
	}
}

// kind is what Kind answers as one word.
func kind(s api.Schema, classes ...string) string {
	name, ok := schema.Kind(s, classes...)
	switch {
	case ok:
		return name
	case name != "":
		return "beside false " + name
	}
	return "none"
}

// P13.2, P13.3, P13.4: schemas by chance, held against another way to say it.
func TestSome(t *testing.T) {
	r := rand.New(rand.NewSource(131))
	found := 0
	for range 3000 {
		s := someSchema(r)
		var classes []string
		for range r.Intn(6) {
			classes = append(classes, sized(r, fmt.Sprint("c", r.Intn(10))))
		}
		if r.Intn(8) == 0 {
			classes = slices.Insert(classes, r.Intn(len(classes)+1), "c10")
		}
		must, may := schema.Wants(s, classes...)
		wantMust, wantMay := plainWants(s, classes)
		is(t, fmt.Sprintf("Wants of %q in %+v", classes, s), told(must)+"; "+told(may), told(wantMust)+"; "+told(wantMay))
		want, ok := plainKind(s, classes)
		if !ok {
			want = "none"
		} else {
			found++
		}
		is(t, fmt.Sprintf("Kind of %q in %+v", classes, s), kind(s, classes...), want)
		for _, name := range classes {
			is(t, "Chain of "+name, told(schema.Chain(s, name)), told(plainChain(s, name)))
			c, ok := schema.Class(s, name)
			is(t, "Class of "+name, ok, name != "c10")
			is(t, "Class's Name", strings.EqualFold(c.Name, name), ok)
		}
		x, ok := schema.Find(s, sized(r, "a5"))
		is(t, "Find", ok && strings.EqualFold(x.Name, "a5") && slices.Contains(s.Types, x), true)
	}
	if found < 500 {
		t.Errorf("Kind was found %d times alone", found)
	}
}
