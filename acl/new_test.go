package acl_test

import (
	"fmt"
	"math"
	"strings"
	"testing"

	"castellan/acl"
	"castellan/api"
	"castellan/schema"
)

// fails: New of these rules has that error, and tells no book beside one.
func fails(t *testing.T, what string, want api.Errno, admin api.DN, rules ...api.Rule) {
	t.Helper()
	b, e := acl.New(schema.Core(), admin, rules...)
	is(t, what, e, want)
	is(t, what+": a book", b != nil, want == api.OK)
}

// P22.1: what is wrong with a rule.
func TestRuleErrors(t *testing.T) {
	root := name("cn=root")
	for _, c := range []struct {
		rule api.Rule
		want api.Errno
	}{
		{api.Rule{Rights: 1}, api.OK}, {api.Rule{Who: api.Known, Rights: 1}, api.OK}, {api.Rule{Who: api.Self, Rights: 1}, api.OK}, {api.Rule{Who: api.Exactly, Rights: 1}, api.OK}, {api.Rule{Who: api.Within, Rights: 1}, api.OK},
		{api.Rule{Who: 5, Rights: 1}, api.ErrOp}, {api.Rule{Who: -1, Rights: 1}, api.ErrOp}, {api.Rule{Who: 256, Rights: 1}, api.ErrOp}, {api.Rule{Who: math.MaxInt, Rights: 1}, api.ErrOp}, {api.Rule{Who: math.MinInt, Rights: 1}, api.ErrOp},
		{api.Rule{Who: api.Exactly, DN: "cn=a,dc=z", Rights: 1}, api.OK}, {api.Rule{Who: api.Within, DN: "dc=z", Rights: 1}, api.OK},
		{api.Rule{DN: "cn=a", Rights: 1}, api.ErrArg}, {api.Rule{Who: api.Known, DN: "cn=a", Rights: 1}, api.ErrArg}, {api.Rule{Who: api.Self, DN: "cn=a", Rights: 1}, api.ErrArg},
		{api.Rule{Where: "cn=a+sn=b,dc=z", Rights: 1}, api.OK}, {api.Rule{Attr: "cn", Rights: 1}, api.OK}, {api.Rule{Attr: "USERPASSWORD", Rights: 1}, api.OK}, {api.Rule{Attr: "changedAt", Rights: 1}, api.OK},
		{api.Rule{Attr: "none", Rights: 1}, api.ErrName}, {api.Rule{Attr: "c", Rights: 1}, api.ErrName}, {api.Rule{Attr: "cn ", Rights: 1}, api.ErrName}, {api.Rule{Attr: "person", Rights: 1}, api.ErrName}, {api.Rule{Attr: "*", Rights: 1}, api.ErrName},
		{api.Rule{}, api.ErrValue}, {api.Rule{Rights: 15}, api.OK}, {api.Rule{Rights: 16}, api.ErrValue}, {api.Rule{Rights: 17}, api.ErrValue}, {api.Rule{Rights: -1}, api.ErrValue}, {api.Rule{Rights: math.MaxInt}, api.ErrValue}, {api.Rule{Rights: math.MinInt}, api.ErrValue}, {api.Rule{Rights: 1 << 40}, api.ErrValue},
	} {
		fails(t, fmt.Sprintf("%+v", c.rule), c.want, root, c.rule)
	}
	for n := range 17 {
		fails(t, fmt.Sprint("rights ", n), map[bool]api.Errno{true: api.OK, false: api.ErrValue}[n >= 1 && n <= 15], root, api.Rule{Rights: n})
	}
}

// P22.1: layer 9's errors of Parse, of a rule's DN whoever it speaks of, and of its Where.
func TestNameErrors(t *testing.T) {
	for text, want := range map[string]api.Errno{
		"x": api.ErrForm, "cn= a": api.ErrForm, ",": api.ErrForm, "cn=a,": api.ErrForm, "cn=a+CN=b": api.ErrTwice,
		"cn=" + strings.Repeat("a", api.MaxText): api.ErrLong, strings.Repeat("cn=a,", api.MaxRdns) + "cn=a": api.ErrMany, "a=+b=+c=+d=+e=+f=+g=+h=+i=": api.ErrMany,
	} {
		for who := api.Anybody; who <= api.Within; who++ {
			fails(t, fmt.Sprintf("DN %.20q of who %d", text, who), want, nil, api.Rule{Who: who, DN: text, Rights: 1})
			fails(t, fmt.Sprintf("Where %.20q of who %d", text, who), want, nil, api.Rule{Who: who, Where: text, Rights: 1})
		}
	}
	long := "cn=" + strings.Repeat("a", api.MaxText-3)
	fails(t, "names as long as may be", api.OK, name(long), api.Rule{Who: api.Within, DN: long, Where: long, Rights: 1})
}

// P22.1: of several things that are wrong with a rule the first is told; of several rules the first one that is wrong;
// and the admin's name ahead of all.
func TestErrorOrder(t *testing.T) {
	spoil := []func(*api.Rule){
		func(r *api.Rule) { r.Who = 5 },
		func(r *api.Rule) { r.DN = "x" },
		func(r *api.Rule) { r.DN = "cn=a" },
		func(r *api.Rule) { r.Where = "cn=a+cn=b" },
		func(r *api.Rule) { r.Attr = "none" },
		func(r *api.Rule) { r.Rights = 16 },
	}
	errors := []api.Errno{api.ErrOp, api.ErrForm, api.ErrArg, api.ErrTwice, api.ErrName, api.ErrValue}
	for set := 1; set < 1<<len(spoil); set++ {
		rule, first := api.Rule{Rights: 1}, -1
		for i := len(spoil) - 1; i >= 0; i-- {
			if set>>i&1 == 1 {
				spoil[i](&rule)
				first = i
			}
		}
		fails(t, fmt.Sprintf("%+v", rule), errors[first], nil, rule)
		other := api.Rule{Who: 6}
		if first == 0 {
			other = api.Rule{}
		}
		fails(t, fmt.Sprintf("%+v ahead of another", rule), errors[first], nil, api.Rule{Rights: 1}, rule, other)
		for what, admin := range strange() {
			fails(t, what, errorsOf()[what], admin, rule)
		}
	}
}

// P22.1: the admin's name, any of its errors.
func TestAdminErrors(t *testing.T) {
	for what, admin := range strange() {
		fails(t, what, errorsOf()[what], admin)
		fails(t, what+", and rules", errorsOf()[what], admin, api.Rule{Rights: 1}, api.Rule{Who: 9})
	}
	fails(t, "nobody known", api.OK, nil)
	fails(t, "no rules", api.OK, name("cn=root"))
}

// A type is looked for in the schema that is handed in; P1: also in such as may not be.
func TestSchemas(t *testing.T) {
	own := api.Schema{Types: []api.Type{{Name: "color", Syntax: api.Text}}}
	for _, c := range []struct {
		s    api.Schema
		attr string
		want api.Errno
	}{
		{own, "Color", api.OK}, {own, "cn", api.ErrName}, {own, "", api.OK}, {api.Schema{}, "cn", api.ErrName}, {api.Schema{}, "", api.OK},
		{api.Schema{Types: []api.Type{{}, {Name: "cn"}, {Name: "cn"}}}, "cn", api.OK},
	} {
		_, e := acl.New(c.s, nil, api.Rule{Attr: c.attr, Rights: 1})
		is(t, fmt.Sprintf("%q of %+v", c.attr, c.s), e, c.want)
	}
}
