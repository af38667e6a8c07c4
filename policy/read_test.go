package policy_test

import (
	"fmt"
	"math"
	"math/rand"
	"strings"
	"testing"

	"castellan/api"
	"castellan/entry"
	"castellan/policy"
	"castellan/schema"
)

// attr answers an attribute of that name, with the values of a text, with blanks between two.
func attr(name, values string) api.Attr {
	return api.Attr{Name: name, Values: strings.Fields(values)}
}

// mods answers modifications as a text.
func mods(list []api.Mod) string {
	var out []string
	for _, m := range list {
		out = append(out, fmt.Sprint(m.Op, " ", m.Name, " ", append([]string{}, m.Values...)))
	}
	return strings.Join(out, "; ")
}

// P23.3: what attributes say of Fails.
func TestReadFails(t *testing.T) {
	for values, want := range map[string]string{
		"": "[]", "5.0": "[5]", "10.0 9.1": "[9 10]", "5.0 5.1 7.0": "[5 5 7]", "7.0 5.0 6.0": "[5 6 7]", "100.0 20.0 3.0": "[3 20 100]",
		// A value alone says its failure, whatever stands behind the point, also twice
		"5.1": "[5]", "5.99": "[5]", "5.7 5.7": "[5 5]", "0.0": "[0]", "9007199254740991.0": "[9007199254740991]",
		// Other values
		"9 9. .9 . 9.100 9.-1 9.00 9.01 9.+1 9.x": "[]", "9.0.0 9..0 9.0. .9.0 9,0 9:0": "[]", "-1.0 -0.0 01.0 00.0 +1.0 x.0 1e3.0 0x1.0": "[]", "9007199254740992.0 9223372036854775807.0 9223372036854775808.0 99999999999999999999.0": "[]",
		"3.0 x 4.0 9 2.0": "[2 3 4]", "9.9223372036854775808 9.18446744073709551616": "[]", "\xff.0 5.\xff": "[]",
	} {
		s := policy.Read([]api.Attr{attr("cn", "5.0"), attr("pwdFailure", values), attr("sn", "5.0")})
		is(t, values, told(s), "failed "+want+" locked -1 changed 0")
		is(t, values+", small", told(policy.Read([]api.Attr{attr("pwdfailure", values)})), "failed "+want+" locked -1 changed 0")
	}
	is(t, "blanks", told(policy.Read([]api.Attr{{Name: "pwdFailure", Values: []string{" 5.0", "5.0 ", "5. 0", "", " ", "5.0\n", "5\x00.0"}}})), "failed [] locked -1 changed 0")
	is(t, "digits that aren't ASCII's", told(policy.Read([]api.Attr{{Name: "pwdFailure", Values: []string{"\u0665.0", "5.\u0660"}}})), "failed [] locked -1 changed 0")
	is(t, "a very long value", told(policy.Read([]api.Attr{attr("pwdFailure", strings.Repeat("1", 100000)+".0 5."+strings.Repeat("1", 100000))})), "failed [] locked -1 changed 0")
}

// P23.3: what attributes say of Locked and Changed.
func TestReadTimes(t *testing.T) {
	for value, want := range map[string]int64{
		"": -2, "0": 0, "7": 7, "9007199254740991": api.MaxTime, "9007199254740992": -2, "-1": -2, "-0": -2, "07": -2, "+7": -2, "x": -2, "7.0": -2, "7 ": -2, " 7": -2, "9223372036854775808": -2, "TRUE": -2, "\xff": -2,
	} {
		locked, changed := want, want
		if want == -2 {
			locked, changed = -1, 0
		}
		for _, names := range [][2]string{{"pwdLocked", "pwdChanged"}, {"PWDLOCKED", "pwdchanged"}} {
			is(t, "locked "+value, told(policy.Read([]api.Attr{{Name: names[0], Values: []string{value}}})), told(state(0, locked)))
			is(t, "changed "+value, told(policy.Read([]api.Attr{{Name: names[1], Values: []string{value}}})), told(state(changed, -1)))
		}
	}
	is(t, "none", told(policy.Read(nil)), told(state(0, -1)))
	is(t, "other attributes", told(policy.Read([]api.Attr{attr("cn", "5"), attr("createdAt", "6"), attr("pwdFailures", "7.0"), attr("pwdLock", "8"), attr("", "9")})), told(state(0, -1)))
	is(t, "without values", told(policy.Read([]api.Attr{attr("pwdChanged", ""), attr("pwdFailure", ""), attr("pwdLocked", "")})), told(state(0, -1)))
	is(t, "behind other values", told(policy.Read([]api.Attr{attr("pwdChanged", "x -3 7"), attr("pwdLocked", "x 99.0 8")})), told(state(7, 8)))
	is(t, "all", told(policy.Read([]api.Attr{attr("pwdChanged", "3"), attr("pwdFailure", "5.0 4.0"), attr("pwdLocked", "9")})), told(state(3, 9, 4, 5)))
}

// P23.3: of more than 100 Fails the greatest 100 are read.
func TestReadMany(t *testing.T) {
	for _, count := range []int{99, 100, 101, 102, 250} {
		var values []string
		for i := range count {
			// From the middle on, and then those below
			values = append(values, fmt.Sprint((i+count/2)%count+1000, ".0"))
		}
		want := times(min(count, 100), int64(1000+max(0, count-100)), 1)
		is(t, fmt.Sprint(count), told(policy.Read([]api.Attr{{Name: "pwdFailure", Values: values}})), told(state(0, -1, want...)))
		values = append(values, "x", "5", "2000.100")
		is(t, fmt.Sprint(count, " and others"), told(policy.Read([]api.Attr{{Name: "pwdFailure", Values: values}})), told(state(0, -1, want...)))
	}
}

// P23.3: by which modifications attributes say a state; the chapter's example among them.
func TestMods(t *testing.T) {
	for _, c := range []struct {
		s    policy.State
		want string
	}{
		{state(0, -1, 5, 5, 7), "2 pwdChanged [0]; 2 pwdFailure [5.0 5.1 7.0]; 2 pwdLocked []"},
		{state(4, -1), "2 pwdChanged [4]; 2 pwdFailure []; 2 pwdLocked []"},
		{policy.State{}, "2 pwdChanged [0]; 2 pwdFailure []; 2 pwdLocked [0]"},
		{state(4, 12, 1), "2 pwdChanged [4]; 2 pwdFailure [1.0]; 2 pwdLocked [12]"},
		{state(4, -1, 1, 1, 1, 2, 3, 3), "2 pwdChanged [4]; 2 pwdFailure [1.0 1.1 1.2 2.0 3.0 3.1]; 2 pwdLocked []"},
		{state(api.MaxTime, api.MaxTime, api.MaxTime), "2 pwdChanged [9007199254740991]; 2 pwdFailure [9007199254740991.0]; 2 pwdLocked [9007199254740991]"},
	} {
		is(t, told(c.s), mods(policy.Mods(c.s)), c.want)
	}
	list := policy.Mods(state(0, -1, times(100, 9, 0)...))
	is(t, "a hundred at one time", len(list[1].Values), 100)
	is(t, "the last of them", list[1].Values[99], "9.99")
	for _, s := range strangeStates() {
		is(t, "of what is no state: "+told(s), len(policy.Mods(s)), 3)
	}
	policy.Mods(state(math.MinInt64, math.MinInt64, math.MinInt64, math.MaxInt64))
}

// P23.4: Read of the attributes that Mods of a state make is the state, whatever these said before.
func TestBack(t *testing.T) {
	r, core := rand.New(rand.NewSource(235)), schema.Core()
	attrs, code := entry.Make(core, attr("cn", "a"), attr("createdAt", "5"), attr("objectClass", "top person"), attr("sn", "b"))
	is(t, "Make", code, api.Success)
	for range 4000 {
		s := someState(r)
		if r.Intn(4) == 0 {
			s.Fails = times(r.Intn(101), someTime(r)%100, int64(r.Intn(2)))
		}
		attrs, code = entry.Apply(core, attrs, policy.Mods(s)...)
		is(t, told(s)+": Apply", code, api.Success)
		is(t, "the state of the attributes", told(policy.Read(attrs)), told(s))
		is(t, "other attributes", len(entry.Get(attrs, "cn"))+len(entry.Get(attrs, "createdAt"))+len(entry.Get(attrs, "objectClass")), 4)
	}
}

// What is read is a state, whatever stands in attributes.
func TestReadSome(t *testing.T) {
	r := rand.New(rand.NewSource(236))
	parts := []string{"0", "1", "5", "99", "100", ".", ".", "-", "9007199254740991", "9007199254740992", "x", " ", "\xff"}
	for range 20000 {
		var attrs []api.Attr
		for _, name := range []string{"pwdChanged", "pwdFailure", "pwdLocked", "PWDFAILURE"} {
			a := api.Attr{Name: name}
			for range r.Intn(4) {
				value := ""
				for range r.Intn(4) {
					value += parts[r.Intn(len(parts))]
				}
				a.Values = append(a.Values, value)
			}
			attrs = append(attrs, a)
		}
		s := policy.Read(attrs)
		is(t, fmt.Sprintf("%q is %s", attrs, told(s)), policy.Right(s), true)
	}
}

// Memory: what is handed in stays as it is, and answers share none with each other.
func TestReadMemory(t *testing.T) {
	attrs := []api.Attr{{Name: "pwdFailure", Values: []string{"7.0", "5.0", "6.0", "spare"}[:3]}, {Name: "cn"}}[:1]
	before := fmt.Sprintf("%q %q", attrs[:2], attrs[0].Values[:4])
	first, second := policy.Read(attrs), policy.Read(attrs)
	spoil(first.Fails[:cap(first.Fails)], 1)
	is(t, "what Read was handed", fmt.Sprintf("%q %q", attrs[:2], attrs[0].Values[:4]), before)
	is(t, "another answer", told(second), "failed [5 6 7] locked -1 changed 0")
	s := state(3, 4, 5, 5, 6, 7)
	s.Fails = s.Fails[:3]
	list, other := policy.Mods(s), policy.Mods(s)
	for _, m := range list {
		spoil(m.Values[:cap(m.Values)], "spoilt")
	}
	spoil(list[:cap(list)], api.Mod{})
	is(t, "what Mods was handed", fmt.Sprint(told(s), s.Fails[:4]), "failed [5 5 6] locked 4 changed 3[5 5 6 7]")
	is(t, "another answer", mods(other), "2 pwdChanged [3]; 2 pwdFailure [5.0 5.1 6.0]; 2 pwdLocked [4]")
}

// spoil puts something at all places of a list.
func spoil[T any](list []T, by T) {
	for i := range list {
		list[i] = by
	}
}
