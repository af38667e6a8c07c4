package entry_test

import (
	"fmt"
	"math/rand"
	"strings"
	"testing"

	"castellan/api"
	"castellan/entry"
	"castellan/schema"
)

// mods answers modifications as a list.
func mods(list ...api.Mod) []api.Mod { return list }

// P14.3: Apply of modifications, and of such as are wrong; what is told first. There are cn: a, b and active: TRUE.
func TestApply(t *testing.T) {
	rest := `active: ["TRUE"]; `
	same := rest + `cn: ["a" "B"]`
	for _, c := range []struct {
		mods []api.Mod
		want string
	}{
		{nil, same},
		// ModAdd
		{mods(add("CN", "C")), rest + `cn: ["a" "B" "C"]`},
		{mods(add("cn", "aa", "A0")), rest + `cn: ["a" "A0" "aa" "B"]`},
		{mods(add("SN", "x")), same + `; sn: ["x"]`},
		{mods(add("aCTIVE", "FALSE")), "19"},
		{mods(add("active", "TRUE")), "20"},
		{mods(add("active", "FALSE", "TRUE")), "20"},
		{mods(add("active", "FALSE", "no")), "21"},
		{mods(add("employeeNumber", "1", "2")), "19"},
		{mods(add("employeeNumber", "1")), same + `; employeeNumber: ["1"]`},
		{mods(add("cn")), "2"},
		{mods(add("sn")), "2"},
		{mods(add("no")), "17"},
		{mods(add("no", "a")), "17"},
		{mods(add("", "a")), "17"},
		{mods(add("cn", "A")), "20"},
		{mods(add("cn", " a ")), "20"},
		{mods(add("cn", "c", "C")), "20"},
		{mods(add("cn", "")), "21"},
		{mods(add("cn", "a", "")), "20"},
		{mods(add("cn", "", "a")), "21"},
		{mods(add("cn", strings.Repeat("x", 4097))), "21"},
		{mods(add("cn", "c"), add("cn", "C")), "20"},
		// ModDelete
		{mods(del("cn")), `active: ["TRUE"]`},
		{mods(del("CN", "A")), rest + `cn: ["B"]`},
		{mods(del("cn", "b", " a ")), `active: ["TRUE"]`},
		{mods(del("cn", "a"), del("cn", "b"), del("active", "TRUE")), ``},
		{mods(del("sn")), "16"},
		{mods(del("sn", "x")), "16"},
		{mods(del("sn", "")), "21"},
		{mods(del("sn", "x", "")), "16"},
		{mods(del("no")), "17"},
		{mods(del("no", "x")), "17"},
		{mods(del("cn", "c")), "16"},
		{mods(del("cn", "a", "A")), "16"},
		{mods(del("cn", "a", "")), "21"},
		{mods(del("cn", "c", "")), "16"},
		{mods(del("active", "FALSE")), "16"},
		{mods(del("active", "true")), "21"},
		{mods(del("cn"), del("cn")), "16"},
		{mods(del("cn", "a", "b"), del("cn")), "16"},
		{mods(del("cn", "a"), del("cn", "a")), "16"},
		// ModReplace
		{mods(rep("cn", "z", "C")), rest + `cn: ["C" "z"]`},
		{mods(rep("CN", "A")), rest + `cn: ["A"]`},
		{mods(rep("cn")), `active: ["TRUE"]`},
		{mods(rep("sn")), same},
		{mods(rep("sn", "y", "X")), same + `; sn: ["X" "y"]`},
		{mods(rep("active", "FALSE")), `active: ["FALSE"]; cn: ["a" "B"]`},
		{mods(rep("active", "FALSE", "TRUE")), "19"},
		{mods(rep("active", "FALSE", "FALSE")), "20"},
		{mods(rep("active", "FALSE", "TRUE", "no")), "21"},
		{mods(rep("cn", "c", " C ")), "20"},
		{mods(rep("cn", "c", "C", "")), "20"},
		{mods(rep("cn", "c", "", "C")), "21"},
		{mods(rep("no")), "17"},
		{mods(rep("no", "")), "17"},
		// No operation, and several one behind the other
		{mods(api.Mod{Op: 3, Name: "cn", Values: []string{"c"}}), "2"},
		{mods(api.Mod{Op: -1, Name: "no"}), "2"},
		{mods(api.Mod{Op: 1 << 32, Name: "cn", Values: []string{""}}), "2"},
		{mods(api.Mod{Op: 3, Name: "cn"}, add("no", "x")), "2"},
		{mods(add("no", "x"), api.Mod{Op: 3, Name: "cn"}), "17"},
		{mods(add("cn", "c"), del("cn", "C")), same},
		{mods(del("cn", "a"), add("cn", " A")), rest + `cn: [" A" "B"]`},
		{mods(del("active"), add("active", "FALSE")), `active: ["FALSE"]; cn: ["a" "B"]`},
		{mods(add("active", "FALSE"), del("active", "TRUE")), "19"},
		{mods(rep("cn", "x"), add("cn", "y"), del("cn", "X")), rest + `cn: ["y"]`},
		{mods(rep("cn"), add("cn", "q")), rest + `cn: ["q"]`},
		{mods(rep("cn"), del("cn")), "16"},
		{mods(rep("cn"), rep("cn")), `active: ["TRUE"]`},
		{mods(add("sn", "x"), del("sn", "x"), del("sn")), "16"},
		{mods(add("cn", "c"), add("cn", "d"), add("cn", "D"), add("no", "x")), "20"},
	} {
		attrs := made(t, schema.Core(), attr("cn", "a", "B"), attr("active", "TRUE"))
		is(t, fmt.Sprint(c.mods), outcome(entry.Apply(schema.Core(), attrs, c.mods...)), c.want)
		is(t, "what was handed in", told(attrs), same)
	}
	is(t, "of nothing", outcome(entry.Apply(schema.Core(), nil)), "")
	is(t, "to nothing", outcome(entry.Apply(schema.Core(), nil, add("cn", "a"))), `cn: ["a"]`)
}

// P14.3, P14.4: modifications by chance, held against rows; what comes of them is in form, and what was handed in stays.
func TestApplySome(t *testing.T) {
	r := rand.New(rand.NewSource(16))
	s := schema.Core()
	count := map[int]int{}
	for range 30000 {
		attrs, list := someForm(r, s), someMods(r, s, 4)
		before := told(attrs)
		got, code := entry.Apply(s, attrs, list...)
		want, wantCode := plainApply(s, attrs, list)
		is(t, fmt.Sprint("of ", before, " and ", list), outcome(got, code), outcome(want, wantCode))
		is(t, "what was handed in", told(attrs), before)
		formed(t, s, got)
		is(t, "made of it", outcome(entry.Make(s, got...)), told(got))
		count[code]++
	}
	for _, code := range []int{api.Success, api.ProtocolErr, api.UndefinedType, api.NoSuchAttr, api.Constraint, api.ValueExists, api.InvalidSyntax} {
		if count[code] < 500 {
			t.Errorf("too few with %d: %v", code, count)
		}
	}
}

// P14.3: several modifications at once are as each of them behind the other.
func TestApplyOneByOne(t *testing.T) {
	r := rand.New(rand.NewSource(17))
	s := schema.Core()
	for range 5000 {
		attrs, list := someForm(r, s), someMods(r, s, 4)
		at, code := attrs, api.Success
		for _, m := range list {
			if at, code = entry.Apply(s, at, m); code != api.Success {
				break
			}
		}
		is(t, fmt.Sprint(list), outcome(entry.Apply(s, attrs, list...)), outcome(at, code))
	}
}

// P14.4: a modification that adds values, and one that deletes them behind it, leave what there was.
func TestAddDelete(t *testing.T) {
	r := rand.New(rand.NewSource(18))
	s := schema.Core()
	done := 0
	for range 20000 {
		attrs, name := someForm(r, s), someName(r)
		values := someValues(r, s, name, 3)
		if _, code := entry.Apply(s, attrs, add(name, values...)); code != api.Success {
			continue
		}
		done++
		is(t, fmt.Sprint(told(attrs), " and ", name, values), outcome(entry.Apply(s, attrs, add(name, values...), del(name, values...))), told(attrs))
	}
	if done < 2000 {
		t.Errorf("too few could be added: %d", done)
	}
}

// P14.3: a great many values, all of which are there, and a great many modifications.
func TestApplyMany(t *testing.T) {
	s := schema.Core()
	var values []string
	var list []api.Mod
	for i := range 50000 {
		values = append(values, fmt.Sprint("v", i*7919%50000))
		list = append(list, add("uid", fmt.Sprint("w", i)))
	}
	attrs := made(t, s, attr("uid", values...))
	is(t, "all are there", len(entry.Get(attrs, "uid")), 50000)
	more, code := entry.Apply(s, attrs, list...)
	is(t, "code", code, api.Success)
	is(t, "all are there", len(entry.Get(more, "uid")), 100000)
	formed(t, s, more)
	left, code := entry.Apply(s, more, del("uid", values[1:]...))
	is(t, "code", code, api.Success)
	is(t, "one of them, and the others", len(entry.Get(left, "uid")), 50001)
	is(t, "that one", entry.Has(s, left, "uid", values[0]), true)
}

// Memory: what is handed in stays as it is, spare room, too; answers are other memory, each list of them by itself.
func TestMemory(t *testing.T) {
	s := schema.Core()
	list := roomy([]api.Attr{attr("cn", "b", "a"), attr("sn", "x"), attr("uid", "u")})
	first := made(t, s, list...)
	is(t, "what was handed in", whole(list), whole(roomy([]api.Attr{attr("cn", "b", "a"), attr("sn", "x"), attr("uid", "u")})))
	spoil(list)
	want := `cn: ["a" "b"]; sn: ["x"]; uid: ["u"]`
	is(t, "made", told(first), want)

	attrs := roomy(first)
	before := whole(attrs)
	change := mods(add("cn", "c"), del("sn"), rep("mail", "m"))
	second, _ := entry.Apply(s, attrs, change...)
	third, _ := entry.Apply(s, attrs)
	values := entry.Get(attrs, "cn")
	again := entry.Get(attrs, "cn")
	is(t, "what was handed in", whole(attrs), before)
	is(t, "the modifications", fmt.Sprint(change), fmt.Sprint(mods(add("cn", "c"), del("sn"), rep("mail", "m"))))
	spoil([]api.Attr{{Values: values}})
	is(t, "what was handed in, when Get's answer was changed", whole(attrs), before)
	is(t, "another answer of Get", fmt.Sprint(again), "[a b]")
	spoil(attrs)
	for _, m := range change {
		spoil([]api.Attr{{Values: m.Values}})
	}
	is(t, "modified", told(second), `cn: ["a" "b" "c"]; mail: ["m"]; uid: ["u"]`)
	is(t, "not modified", told(third), want)
	for i := range third {
		spoil(third[i : i+1 : i+1])
		is(t, "the others of one answer", told(third[i+1:]), told(first[i+1:]))
	}
}

// P1: attributes that aren't in form, schemas that may not be, names and values of all sorts: every call ends.
func TestStrange(t *testing.T) {
	core := schema.Core()
	huge := strings.Repeat("a", 5000)
	for _, s := range []api.Schema{
		core, {}, {Types: make([]api.Type, 200), Classes: make([]api.Class, 200)},
		{Types: []api.Type{{Name: "cn", Syntax: 99}, {Name: "cn", Syntax: api.Text}, {Name: "CN", Syntax: -1}, {Name: "", Syntax: api.Text}, {Name: "\xff", Syntax: api.Octets, Single: true}}},
	} {
		for _, attrs := range [][]api.Attr{
			nil, make([]api.Attr, 3), {attr("cn")}, {attr("cn", "b", "a", "A", "\xff", "")}, {attr("sn", "a"), attr("cn", "a"), attr("CN", "a"), attr("no", "a")}, {attr("", "", "a")}, {attr("\xff", "\xff", "\xfe")}, {attr(huge, huge), attr("cn", huge)},
			{attr("active", "TRUE", "FALSE", "x")}, {attr("objectClass", "no", "no")},
		} {
			for _, name := range []string{"cn", "", "no", "\xff", "active", huge} {
				for _, value := range []string{"", "a", "\xff", "TRUE", huge} {
					everything(t, s, attrs, nil, name, value)
					for op := -1; op < 4; op++ {
						everything(t, s, attrs, mods(api.Mod{Op: op, Name: name}, api.Mod{Op: op, Name: name, Values: []string{value, value}}), name, value)
						everything(t, s, attrs, mods(api.Mod{Op: op, Name: name, Values: []string{value}}, api.Mod{Op: 1 - op, Name: name}), name, value)
					}
				}
			}
		}
	}
	huge = strings.Repeat("a", 1<<20)
	everything(t, core, []api.Attr{attr(huge, huge), attr("cn", huge)}, mods(add(huge, huge)), huge, huge)
	everything(t, core, made(t, core, attr("cn", "a")), mods(add("cn", huge), del(huge)), "cn", huge)
}
