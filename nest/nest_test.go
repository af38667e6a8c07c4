package nest_test

import (
	"strconv"
	"strings"
	"testing"

	"castellan/nest"
)

// thing has a list of such things of its own.
type thing struct {
	name string
	list []thing
}

// copied is Copy of things as they are.
func copied(list []thing) []thing {
	return nest.Copy(list, func(x thing) thing { return x }, func(x *thing) *[]thing { return &x.list })
}

// shape answers things as a text.
func shape(list []thing) string {
	var out strings.Builder
	for _, x := range list {
		out.WriteString(x.name + "(" + shape(x.list) + ")")
	}
	return out.String()
}

// is: a test fails, if something is another thing than was wanted.
func is[T comparable](t *testing.T, what string, got, want T) {
	t.Helper()
	if got != want {
		t.Errorf("%s: %v, wanted %v", what, got, want)
	}
}

// sample answers things with lists, one of which stands in two places.
func sample() []thing {
	twice := []thing{{name: "x", list: []thing{{name: "y"}}}, {name: "z", list: []thing{}}}
	return []thing{{name: "a", list: twice}, {name: "b"}, {name: "c", list: []thing{{name: "d", list: twice}}}}
}

// The copy has all, each list in memory of its own.
func TestCopy(t *testing.T) {
	is(t, "of nothing", len(copied(nil))+len(copied([]thing{})), 0)
	list := sample()
	got := copied(list)
	want := "a(x(y())z())b()c(d(x(y())z()))"
	is(t, "the copy", shape(got), want)
	list[0].name, list[2].list[0].list[0].name, list[0].list[0].list[0].name = "1", "2", "3"
	is(t, "the copy behind changes of the list", shape(got), want)
	got[0].list[0].name = "!"
	_ = append(got[0].list, thing{name: "?"})
	is(t, "behind a change of a list in the copy", shape(got), "a(!(y())z())b()c(d(x(y())z()))")
	is(t, "the list", shape(list), "1(2(3())z())b()c(d(2(3())z()))")
}

// What copied answers stands in the copy, and what it leaves out isn't gone through.
func TestCopied(t *testing.T) {
	got := nest.Copy(sample(), func(x thing) thing {
		if x.name == "d" || x.name == "x" {
			x.list = nil
		}
		return thing{name: x.name + x.name, list: x.list}
	}, func(x *thing) *[]thing { return &x.list })
	is(t, "the copy", shape(got), "aa(xx()zz())bb()cc(dd())")
}

// Things deeper than calls within calls can follow.
func TestDeep(t *testing.T) {
	const depth = 2000000
	var list []thing
	for i := range depth {
		list = []thing{{name: strconv.Itoa(i & 7), list: list}}
	}
	got := copied(list)
	for i := depth - 1; i >= 0; i-- {
		if len(got) != 1 || got[0].name != list[0].name || &got[0] == &list[0] {
			t.Fatalf("at %d: %d things", i, len(got))
		}
		got, list = got[0].list, list[0].list
	}
	is(t, "beneath all", len(got), 0)
}

// A list that stands beneath itself.
func TestRound(t *testing.T) {
	list := []thing{{name: "a"}, {name: "b"}}
	list[0].list = []thing{{name: "c", list: list}, {name: "d", list: list[:1]}}
	got := copied(list)
	for range 10 {
		if len(got) != 2 || got[0].name != "a" || got[1].name != "b" || &got[0] == &list[0] || len(got[1].list) != 0 {
			t.Fatalf("the list is %v things", len(got))
		}
		inner := got[0].list
		if len(inner) != 2 || inner[0].name != "c" || inner[1].name != "d" || &inner[0] == &list[0].list[0] {
			t.Fatalf("beneath are %v things", len(inner))
		}
		if len(inner[1].list) != 1 || inner[1].list[0].name != "a" || &inner[1].list[0] == &list[0] {
			t.Fatalf("beneath d are %v things", len(inner[1].list))
		}
		got = inner[0].list
	}
}
