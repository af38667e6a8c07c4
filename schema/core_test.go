package schema_test

import (
	"fmt"
	"reflect"
	"strings"
	"testing"

	"castellan/api"
	"castellan/schema"
)

// The chapter's schema, as it is told.
const (
	coreTypes = `( objectClass SYNTAX 3 )
( cn SYNTAX 1 )
( sn SYNTAX 1 )
( ou SYNTAX 1 )
( o SYNTAX 1 )
( dc SYNTAX 3 )
( uid SYNTAX 3 )
( mail SYNTAX 3 )
( description SYNTAX 1 )
( member SYNTAX 6 )
( userPassword SYNTAX 7 )
( employeeNumber SYNTAX 4 SINGLE-VALUE )
( active SYNTAX 5 SINGLE-VALUE )
( createdAt SYNTAX 4 SINGLE-VALUE NO-USER-MODIFICATION )
( changedAt SYNTAX 4 SINGLE-VALUE NO-USER-MODIFICATION )
( pwdFailure SYNTAX 3 NO-USER-MODIFICATION )
( pwdLocked SYNTAX 4 SINGLE-VALUE NO-USER-MODIFICATION )
( pwdChanged SYNTAX 4 SINGLE-VALUE NO-USER-MODIFICATION )`
	coreClasses = `( top ABSTRACT MUST ( objectClass ) MAY ( createdAt $ changedAt $ pwdFailure $ pwdLocked $ pwdChanged ) )
( domain SUP top STRUCTURAL MUST ( dc ) MAY ( description ) )
( organization SUP top STRUCTURAL MUST ( o ) MAY ( description ) )
( organizationalUnit SUP top STRUCTURAL MUST ( ou ) MAY ( description ) )
( person SUP top STRUCTURAL MUST ( cn $ sn ) MAY ( description $ userPassword ) )
( inetPerson SUP person STRUCTURAL MAY ( uid $ mail $ employeeNumber $ active ) )
( group SUP top STRUCTURAL MUST ( cn $ member ) MAY ( description ) )
( secured SUP top AUXILIARY MUST ( userPassword ) )
( labelled SUP top AUXILIARY MAY ( uid $ mail ) )`
)

// P13.5, P13.6: Core is the chapter's schema, and may be; Lines of it.
func TestCore(t *testing.T) {
	s := schema.Core()
	is(t, "it may be", schema.Check(s), api.OK)
	types, classes := schema.Lines(s)
	is(t, "its types", strings.Join(types, "\n"), coreTypes)
	is(t, "its classes", strings.Join(classes, "\n"), coreClasses)
	is(t, "how many types", len(s.Types), 18)
	is(t, "how many classes", len(s.Classes), 9)
}

// P13.5: each field of some of Core's types and classes.
func TestCoreFields(t *testing.T) {
	s := schema.Core()
	is(t, "objectClass", s.Types[0], api.Type{Name: "objectClass", Syntax: api.Ascii})
	is(t, "active", s.Types[12], api.Type{Name: "active", Syntax: api.Truth, Single: true})
	is(t, "createdAt", s.Types[13], api.Type{Name: "createdAt", Syntax: api.Number, Single: true, Oper: true})
	is(t, "pwdFailure", s.Types[15], api.Type{Name: "pwdFailure", Syntax: api.Ascii, Oper: true})
	is(t, "group", fmt.Sprintf("%+v", s.Classes[6]), fmt.Sprintf("%+v", class("group", "top", api.Structural, "cn member", "description")))
	is(t, "top", fmt.Sprintf("%+v", s.Classes[0]), fmt.Sprintf("%+v", class("top", "", api.Abstract, "objectClass", "createdAt changedAt pwdFailure pwdLocked pwdChanged")))
}

// P13.5: each answer of Core is memory of its own, spare room, too.
func TestCoreMemory(t *testing.T) {
	first := schema.Core()
	for i := range first.Classes {
		spoil(first.Classes[i].Must)
		spoil(first.Classes[i].May)
	}
	first.Types[0].Name, first.Classes[0].Name = "spoiled", "spoiled"
	types, classes := schema.Lines(schema.Core())
	is(t, "types", strings.Join(types, "\n"), coreTypes)
	is(t, "classes", strings.Join(classes, "\n"), coreClasses)
	// Two lists of one answer share none: what is put behind one changes no other.
	second := schema.Core()
	for _, c := range second.Classes {
		_ = append(c.Must, "behind")
		_ = append(c.May, "behind")
	}
	_, _ = append(second.Types, api.Type{Name: "behind"}), append(second.Classes, api.Class{Name: "behind"})
	is(t, "all as before", reflect.DeepEqual(second, schema.Core()), true)
}

// P13.6: Lines of types and classes of all sorts, also of such as may not be.
func TestLines(t *testing.T) {
	s := api.Schema{
		Types: []api.Type{{}, {Name: "a", Syntax: 8, Oper: true}, {Name: "b", Syntax: -12, Single: true}, {Name: "é $ ", Syntax: 9223372036854775807, Single: true, Oper: true}, {Name: "a", Syntax: 8, Oper: true}},
		Classes: []api.Class{
			{},
			{Name: "x", Kind: 3},
			{Name: "x", Kind: -1, Sup: "y", Must: []string{"a"}, May: []string{"b"}},
			{Name: "y", Kind: api.Auxiliary, Sup: "y", Must: []string{"", ""}, May: []string{}},
			{Name: "z", Kind: api.Structural, May: []string{"a", "A", "a"}},
		},
	}
	types, classes := schema.Lines(s)
	is(t, "types", strings.Join(types, "\n"), "(  SYNTAX 0 )\n( a SYNTAX 8 NO-USER-MODIFICATION )\n( b SYNTAX -12 SINGLE-VALUE )\n( é $  SYNTAX 9223372036854775807 SINGLE-VALUE NO-USER-MODIFICATION )\n( a SYNTAX 8 NO-USER-MODIFICATION )")
	is(t, "classes", strings.Join(classes, "\n"), "(  ABSTRACT )\n( x )\n( x SUP y MUST ( a ) MAY ( b ) )\n( y SUP y AUXILIARY MUST (  $  ) )\n( z STRUCTURAL MAY ( a $ A $ a ) )")
	types, classes = schema.Lines(api.Schema{})
	is(t, "no types", len(types), 0)
	is(t, "no classes", len(classes), 0)
}
