package check_test

import (
	"fmt"
	"math/rand"
	"strings"
	"testing"

	"castellan/api"
	"castellan/check"
	"castellan/schema"
)

// P15.1: Fits of entries of Core's classes, and of such as don't fit; what is told first.
func TestFits(t *testing.T) {
	s := schema.Core()
	for _, c := range []struct {
		rdn, attrs string
		want       int
	}{
		{"cn=a", "objectClass:person|cn:a|sn:x", 0},
		{"CN= A ", "objectClass:PERSON|cn:a|sn:x", 0},
		{"", "objectClass:person|cn:a|sn:x", 0},
		{"cn=a+sn=X", "objectClass:top,person|cn:a,b|sn:x", 0},
		{"sn=x+cn=b+CN=A", "objectClass:top,person|cn:a,b|sn:x", 0},
		{"cn=a", "objectClass:top,person,inetPerson|cn:a|sn:x|mail:m|active:TRUE", 0},
		{"uid=u", "objectClass:inetPerson|cn:a|sn:x|uid:u", 0},
		{"objectClass=person", "objectClass:person|cn:a|sn:x", 0},
		{"cn=a", "objectClass:person,labelled|cn:a|sn:x|mail:m|uid:u", 0},
		{"cn=a", "objectClass:person,secured|cn:a|sn:x|userPassword:p", 0},
		{"cn=a", "objectClass:person|cn:a|sn:x|description:d|userPassword:p|createdAt:1|changedAt:1|pwdFailure:1.0|pwdLocked:1|pwdChanged:1", 0},
		{"dc=z", "objectClass:domain|dc:z", 0},
		{"o=z", "objectClass:organization|o:z", 0},
		{"ou=z", "objectClass:organizationalUnit,top|ou:z", 0},
		{"cn=g", "objectClass:group|cn:g|member:cn=a", 0},
		{"member=CN=a", "objectClass:group|cn:g|member:cn=A", 0},
		// Classes
		{"cn=a", "cn:a|sn:x", 65},
		{"no=a", "", 65},
		{"", "", 65},
		{"cn=a", "objectClass:top|cn:a|sn:x", 65},
		{"cn=a", "objectClass:labelled|cn:a|sn:x|uid:u", 65},
		{"cn=a", "objectClass:no,person|cn:a|sn:x", 65},
		{"cn=a", "objectClass:,person|cn:a|sn:x", 65},
		{"cn=a", "objectClass: person|cn:a|sn:x", 65},
		{"cn=a", "objectClass:cn,person|cn:a|sn:x", 65},
		{"cn=a", "objectClass:person,group|cn:a|sn:x|member:cn=a", 65},
		{"cn=a", "objectClass:inetPerson,person,domain|cn:a|sn:x|dc:z", 65},
		// What must be there
		{"cn=a", "objectClass:person|cn:a", 65},
		{"cn=a", "objectClass:person|sn:x", 65},
		{"cn=a", "objectClass:inetPerson|cn:a", 65},
		{"cn=a", "objectClass:person,secured|cn:a|sn:x", 65},
		{"no=a", "objectClass:person|cn:a", 65},
		{"cn=b", "objectClass:person|cn:a", 65},
		// What may not be there
		{"cn=a", "objectClass:person|cn:a|sn:x|uid:u", 65},
		{"cn=a", "objectClass:person|cn:a|sn:x|ou:u", 65},
		{"cn=a", "objectClass:domain|dc:z|cn:a", 65},
		{"cn=a", "objectClass:person,secured|cn:a|sn:x|userPassword:p|employeeNumber:1", 65},
		{"no=a", "objectClass:person|cn:a|sn:x|uid:u", 65},
		{"cn=b", "objectClass:person|cn:a|sn:x|uid:u", 65},
		// The RDN
		{"cn=b", "objectClass:person|cn:a|sn:x", 64},
		{"description=a", "objectClass:person|cn:a|sn:x", 64},
		{"uid=a", "objectClass:person|cn:a|sn:x", 64},
		{"cn=a+sn=y", "objectClass:person|cn:a|sn:x", 64},
		{"cn=a+cn=b", "objectClass:person|cn:a|sn:x", 64},
		{"no=a", "objectClass:person|cn:a|sn:x", 17},
		{"=a", "objectClass:person|cn:a|sn:x", 17},
		{"person=a", "objectClass:person|cn:a|sn:x", 17},
		{"cn=", "objectClass:person|cn:a|sn:x", 21},
		{"cn=\xff", "objectClass:person|cn:a|sn:x", 21},
		{"active=a", "objectClass:person|cn:a|sn:x", 21},
		{"cn=" + strings.Repeat("a", 4097), "objectClass:person|cn:a|sn:x", 21},
		{"cn=a+no=x+cn=b", "objectClass:person|cn:a|sn:x", 17},
		{"cn=b+no=x", "objectClass:person|cn:a|sn:x", 64},
		{"cn=+no=x", "objectClass:person|cn:a|sn:x", 21},
		{"no=x+cn=", "objectClass:person|cn:a|sn:x", 17},
		{"cn=b+cn=", "objectClass:person|cn:a|sn:x", 64},
		{"cn=a+active=1+cn=b", "objectClass:person|cn:a|sn:x", 21},
	} {
		var list []api.Attr
		if c.attrs != "" {
			list = attrs(t, s, strings.Split(c.attrs, "|")...)
		}
		is(t, fmt.Sprintf("%.40q of %s", c.rdn, c.attrs), check.Fits(s, rdn(c.rdn), list), c.want)
		is(t, fmt.Sprintf("%.40q of %s, said in another way", c.rdn, c.attrs), plainFits(s, rdn(c.rdn), list), c.want)
	}
}

// P15.1: names of types that the schema has in other letters than its classes.
func TestFitsLetters(t *testing.T) {
	s := api.Schema{
		Types:   []api.Type{{Name: "OBJECTclass", Syntax: api.Ascii}, {Name: "Aa", Syntax: api.Text}, {Name: "bB", Syntax: api.Exact}},
		Classes: []api.Class{{Name: "Top", Must: []string{"objectCLASS"}}, {Name: "Thing", Sup: "TOP", Kind: api.Structural, Must: []string{"AA"}, May: []string{"BB"}}},
	}
	is(t, "it may be", schema.Check(s), api.OK)
	list := attrs(t, s, "objectclass:thing", "aa:X", "bb:Y")
	is(t, "fits", check.Fits(s, rdn("AA=x+Bb=Y"), list), api.Success)
	is(t, "another letter of an exact value", check.Fits(s, rdn("AA=x+Bb=y"), list), api.Naming)
	is(t, "what must be lacks", check.Fits(s, nil, attrs(t, s, "objectclass:thing", "bb:Y")), api.ClassViolation)
	is(t, "without what may be", check.Fits(s, nil, attrs(t, s, "objectclass:thing", "aa:X")), api.Success)
}

// P15.1: Fits of entries by chance is as said in another way.
func TestFitsSome(t *testing.T) {
	r := rand.New(rand.NewSource(15))
	s := schema.Core()
	count := map[int]int{}
	for range 60000 {
		list := someAttrs(r, s)
		name := someRDN(r, list)
		want := plainFits(s, name, list)
		is(t, fmt.Sprintf("%q of %s", name, told(list)), check.Fits(s, name, list), want)
		count[want]++
	}
	for _, code := range []int{api.Success, api.ClassViolation, api.UndefinedType, api.InvalidSyntax, api.Naming} {
		if count[code] < 300 {
			t.Errorf("too few with %d: %v", code, count)
		}
	}
}

// P15.2: Changes of structural classes, and of others.
func TestChanges(t *testing.T) {
	s := schema.Core()
	// A line for each: its sets of classes have the same structural one, or none.
	alike := [][]string{
		{"person", "PERSON", "top,person", "person,labelled", "secured,Person"},
		{"inetPerson", "person,inetPerson", "top,person,INETPERSON,secured"},
		{"group", "top,group", "GROUP,labelled"},
		{"domain"},
		{"", "top", "secured", "person,group", "no", "person,no", "domain,organization", "person, top", " person"},
	}
	for i, was := range alike {
		for j, now := range alike {
			for _, a := range was {
				for _, b := range now {
					want := api.ClassMods
					if i == j {
						want = api.Success
					}
					is(t, a+" to "+b, check.Changes(s, attrs(t, s, "objectClass:"+a), attrs(t, s, "objectClass:"+b)), want)
				}
			}
		}
	}
	none, person := attrs(t, s, "cn:a"), attrs(t, s, "cn:b", "objectClass:person")
	is(t, "without classes", check.Changes(s, none, nil), api.Success)
	is(t, "to a class", check.Changes(s, none, person), api.ClassMods)
	is(t, "from a class", check.Changes(s, person, none), api.ClassMods)
	is(t, "to the same", check.Changes(s, person, person), api.Success)
}

// P15.2: Changes of classes by chance is as said in another way.
func TestChangesSome(t *testing.T) {
	r := rand.New(rand.NewSource(16))
	s := schema.Core()
	count := map[int]int{}
	for range 30000 {
		was, now := someAttrs(r, s), someAttrs(r, s)
		kind, ok := plainKind(s, valuesOf(was, "objectClass"))
		kindNow, okNow := plainKind(s, valuesOf(now, "objectClass"))
		want := api.ClassMods
		if kind == kindNow && ok == okNow {
			want = api.Success
		}
		is(t, told(was)+" to "+told(now), check.Changes(s, was, now), want)
		count[want]++
	}
	if count[api.Success] < 1000 || count[api.ClassMods] < 1000 {
		t.Errorf("the tries are too much alike: %v", count)
	}
}
