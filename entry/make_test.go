package entry_test

import (
	"fmt"
	"math/rand"
	"strings"
	"testing"

	"castellan/api"
	"castellan/entry"
	"castellan/schema"
)

// P14.1: Make of lists, and of such as are wrong; what is told first.
func TestMake(t *testing.T) {
	long := strings.Repeat("a", 4096)
	for _, c := range []struct {
		list []api.Attr
		want string
	}{
		{nil, ``},
		{[]api.Attr{attr("cn", "a")}, `cn: ["a"]`},
		{[]api.Attr{attr("CN", " A  b ")}, `cn: [" A  b "]`},
		{[]api.Attr{attr("SN", "b", "A"), attr("cn", "x")}, `cn: ["x"]; sn: ["A" "b"]`},
		{[]api.Attr{attr("userPassword", "b", "a", "B", "A", "")}, `userPassword: ["" "A" "B" "a" "b"]`},
		{[]api.Attr{attr("uid", "b", "a", "C", " A2")}, `uid: ["a" " A2" "b" "C"]`},
		{[]api.Attr{attr("employeeNumber", "10")}, `employeeNumber: ["10"]`},
		{[]api.Attr{attr("member", "sn=z", "CN=b", "cn=A")}, `member: ["cn=A" "CN=b" "sn=z"]`},
		{[]api.Attr{attr("objectClass", "person"), attr("o", "x"), attr("OU", "x"), attr("pwdChanged", "1")}, `o: ["x"]; objectClass: ["person"]; ou: ["x"]; pwdChanged: ["1"]`},
		{[]api.Attr{attr("cn", "b"), attr("sn", "x"), attr("CN", "a", "c"), attr("Cn", "B2")}, `cn: ["a" "b" "B2" "c"]; sn: ["x"]`},
		{[]api.Attr{attr("cn", long)}, `cn: ["` + long + `"]`},
		{[]api.Attr{attr("cn", long+"a")}, "21"},
		{[]api.Attr{attr("no", "a")}, "17"},
		{[]api.Attr{attr("", "a")}, "17"},
		{[]api.Attr{attr(" cn", "a")}, "17"},
		{[]api.Attr{attr("person", "a")}, "17"},
		{[]api.Attr{attr("\u212a", "a")}, "17"},
		{[]api.Attr{attr("no")}, "17"},
		{[]api.Attr{attr("no", "")}, "17"},
		{[]api.Attr{attr("cn")}, "19"},
		{[]api.Attr{attr("cn", "a"), attr("cn")}, "19"},
		{[]api.Attr{attr("cn"), attr("no")}, "19"},
		{[]api.Attr{attr("no"), attr("cn")}, "17"},
		{[]api.Attr{attr("cn", "")}, "21"},
		{[]api.Attr{attr("cn", "\xff")}, "21"},
		{[]api.Attr{attr("active", "yes")}, "21"},
		{[]api.Attr{attr("employeeNumber", "07")}, "21"},
		{[]api.Attr{attr("mail", "é")}, "21"},
		{[]api.Attr{attr("member", "cn")}, "21"},
		{[]api.Attr{attr("cn", "a", "A")}, "20"},
		{[]api.Attr{attr("cn", "a b", "b", " A  B ")}, "20"},
		{[]api.Attr{attr("cn", "a"), attr("CN", "A")}, "20"},
		{[]api.Attr{attr("member", "cn=a+sn=b", "SN=B+CN=A")}, "20"},
		{[]api.Attr{attr("userPassword", "a", "a")}, "20"},
		{[]api.Attr{attr("uid", "", " ")}, "20"},
		{[]api.Attr{attr("cn", "a", "A", "\xff")}, "20"},
		{[]api.Attr{attr("cn", "a", "\xff", "A")}, "21"},
		{[]api.Attr{attr("active", "TRUE", "FALSE")}, "19"},
		{[]api.Attr{attr("active", "TRUE", "TRUE")}, "20"},
		{[]api.Attr{attr("active", "TRUE", "FALSE", "TRUE")}, "20"},
		{[]api.Attr{attr("active", "TRUE", "FALSE", "no")}, "21"},
		{[]api.Attr{attr("active", "TRUE"), attr("ACTIVE", "FALSE")}, "19"},
		{[]api.Attr{attr("active", "TRUE"), attr("ACTIVE", "TRUE")}, "20"},
		{[]api.Attr{attr("active", "TRUE"), attr("ACTIVE")}, "19"},
		{[]api.Attr{attr("cn", "a", "A"), attr("no", "x")}, "20"},
		{[]api.Attr{attr("no", "x"), attr("cn", "a", "A")}, "17"},
		{[]api.Attr{attr("active", "TRUE", "FALSE"), attr("cn", "a", "A")}, "19"},
	} {
		is(t, told(c.list), outcome(entry.Make(schema.Core(), c.list...)), c.want)
	}
}

// P14.1: every syntax's values, and the order of names of which one begins another, and of capital letters.
func TestMakeOrder(t *testing.T) {
	s := api.Schema{Types: []api.Type{{Name: "objectClass", Syntax: api.Ascii}}}
	for i, name := range []string{"b", "A", "a-b", "Ab", "a9", "B1", "c", "Z"} {
		s.Types = append(s.Types, api.Type{Name: name, Syntax: 1 + i%8})
	}
	list := []api.Attr{attr("z", "20240229235959Z", "19991231235959Z"), attr("C", "z", "Z", ""), attr("b1", "sn=b", "CN=a"), attr("A9", "TRUE", "FALSE"), attr("aB", "9", "10", "-1", "-9", "0"), attr("A-B", "C", "b", " "), attr("a", "b", "C", "B"), attr("B", "C", "b")}
	want := `A: ["B" "C" "b"]; a-b: [" " "b" "C"]; a9: ["FALSE" "TRUE"]; Ab: ["-1" "-9" "0" "10" "9"]; b: ["b" "C"]; B1: ["CN=a" "sn=b"]; c: ["" "Z" "z"]; Z: ["19991231235959Z" "20240229235959Z"]`
	is(t, "it may be", schema.Check(s), api.OK)
	is(t, "in order", outcome(entry.Make(s, list...)), want)
}

// P14.1, P14.4: Make of lists by chance, held against rows; what it answers is in form, and Make of that is that.
func TestMakeSome(t *testing.T) {
	r := rand.New(rand.NewSource(14))
	s := schema.Core()
	count := map[int]int{}
	for range 30000 {
		list := someList(r, s, 4)
		got, code := entry.Make(s, list...)
		want, wantCode := "", 0
		if x, c := plainMake(s, list); c == 0 {
			want = told(x.attrs())
		} else {
			want, wantCode = fmt.Sprint(c), c
		}
		is(t, "Make of "+told(list), outcome(got, code), want)
		is(t, "code", code, wantCode)
		count[code]++
		formed(t, s, got)
		is(t, "made of what is in form", outcome(entry.Make(s, got...)), told(got))
	}
	for _, code := range []int{api.Success, api.UndefinedType, api.Constraint, api.ValueExists, api.InvalidSyntax} {
		if count[code] < 500 {
			t.Errorf("too few with %d: %v", code, count)
		}
	}
}

// P14.2: Get.
func TestGet(t *testing.T) {
	attrs := made(t, schema.Core(), attr("objectClass", "person", "top"), attr("cn", "b", "A"), attr("sn", "x"))
	for name, want := range map[string]string{
		"cn": `["A" "b"]`, "CN": `["A" "b"]`, "Cn": `["A" "b"]`, "sn": `["x"]`, "OBJECTCLASS": `["person" "top"]`, "uid": `[]`, "": `[]`, "c": `[]`, "cnn": `[]`, " cn": `[]`, "no": `[]`, "\xe3n": `[]`,
	} {
		is(t, name, fmt.Sprintf("%q", entry.Get(attrs, name)), want)
	}
	is(t, "of none", len(entry.Get(nil, "cn")), 0)
	is(t, "of none, no name", len(entry.Get(nil, "")), 0)
}

// P14.2: Has.
func TestHas(t *testing.T) {
	s := schema.Core()
	attrs := made(t, s, attr("cn", "b", "A  c"), attr("userPassword", "Pw"), attr("member", "CN=a+sn=B"), attr("active", "TRUE"), attr("uid", ""), attr("employeeNumber", "7"))
	for _, c := range []struct {
		name, value string
		want        bool
	}{
		{"cn", "b", true}, {"CN", " B ", true}, {"cn", "a C", true}, {"cn", "A  c", true}, {"cn", "Ac", false}, {"cn", "", false}, {"cn", "\xff", false}, {"cn", strings.Repeat("b", 4097), false},
		{"sn", "b", false}, {"no", "b", false}, {"", "", false}, {" cn", "b", false},
		{"userPassword", "Pw", true}, {"USERPASSWORD", "Pw", true}, {"userPassword", "pw", false}, {"userPassword", "", false},
		{"member", "sn=b+cn=A", true}, {"member", "cn=a", false}, {"member", "cn", false}, {"member", "", false},
		{"active", "TRUE", true}, {"active", "FALSE", false}, {"active", "true", false},
		{"uid", "", true}, {"uid", "  ", true}, {"uid", "a", false},
		{"employeeNumber", "7", true}, {"employeeNumber", "07", false}, {"employeeNumber", "-7", false},
	} {
		is(t, fmt.Sprintf("%s: %.20q", c.name, c.value), entry.Has(s, attrs, c.name, c.value), c.want)
	}
	is(t, "of none", entry.Has(s, nil, "cn", "b"), false)
	is(t, "without a schema", entry.Has(api.Schema{}, attrs, "cn", "b"), false)
}

// P14.2: Get and Has of attributes by chance are what the rows say.
func TestGetHasSome(t *testing.T) {
	r := rand.New(rand.NewSource(15))
	s := schema.Core()
	count := map[bool]int{}
	for range 3000 {
		attrs := someForm(r, s)
		x, _ := plainMake(s, attrs)
		for range 20 {
			name := someName(r)
			if len(attrs) > 0 && r.Intn(2) == 0 {
				name = attrs[r.Intn(len(attrs))].Name
			}
			values := append(someValues(r, s, name, 1), "a")
			probe := &sheet{s: s}
			at := x.typeAt(name)
			want := at >= 0 && probe.plus(at, values[:1]) == 0 && x.count(at, probe.rows[0].norm) > 0
			is(t, fmt.Sprintf("Has of %s: %s, %q", told(attrs), name, values[0]), entry.Has(s, attrs, name, values[0]), want)
			count[want]++
			is(t, "Get", len(entry.Get(attrs, name)), max(0, x.count(at)))
			for _, v := range entry.Get(attrs, name) {
				is(t, "has what it has", entry.Has(s, attrs, name, v), true)
			}
		}
	}
	if count[true] < 1000 || count[false] < 1000 {
		t.Errorf("the tries are too much alike: %v", count)
	}
}
