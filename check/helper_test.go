package check_test

import (
	"fmt"
	"math/rand"
	"slices"
	"strings"
	"testing"

	"castellan/api"
	"castellan/check"
	"castellan/entry"
	"castellan/schema"
	"castellan/syntax"
)

// is: a test fails, if something is another thing than was wanted.
func is[T comparable](t *testing.T, what string, got, want T) {
	t.Helper()
	if got != want {
		t.Errorf("%s: %v, wanted %v", what, got, want)
	}
}

// rdn answers an RDN, told as in a name: type=value with + between two; no other byte plays a part.
func rdn(text string) api.RDN {
	var out api.RDN
	if text == "" {
		return out
	}
	for _, part := range strings.Split(text, "+") {
		name, value, _ := strings.Cut(part, "=")
		out = append(out, api.AVA{Type: name, Value: value})
	}
	return out
}

// attrs answers attributes in form, told as lines: a name, a colon, and values with commas between two.
func attrs(t *testing.T, s api.Schema, lines ...string) []api.Attr {
	t.Helper()
	var list []api.Attr
	for _, line := range lines {
		name, values, _ := strings.Cut(line, ":")
		list = append(list, api.Attr{Name: name, Values: strings.Split(values, ",")})
	}
	out, code := entry.Make(s, list...)
	if code != api.Success {
		t.Fatalf("Make of %q: %d", lines, code)
	}
	return out
}

// told answers attributes as a text.
func told(list []api.Attr) string {
	var out []string
	for _, a := range list {
		out = append(out, fmt.Sprintf("%s: %q", a.Name, a.Values))
	}
	return strings.Join(out, "; ")
}

// outcome answers attributes as a text, or a code that isn't Success; something else, where attributes stand beside one.
func outcome(list []api.Attr, code int) string {
	switch {
	case code == api.Success:
		return told(list)
	case len(list) > 0:
		return fmt.Sprint(code, " beside ", told(list))
	}
	return fmt.Sprint(code)
}

// small is Fold in another way.
func small(name string) string {
	return strings.Map(func(r rune) rune {
		if r >= 'A' && r <= 'Z' {
			return r + 32
		}
		return r
	}, name)
}

// key answers a type and a value as one text that those have that are the same, or a code.
func key(s api.Schema, name, value string) (string, int) {
	for _, x := range s.Types {
		if small(x.Name) == small(name) {
			norm, ok := syntax.Norm(x.Syntax, value)
			if !ok {
				return "", 21
			}
			return small(name) + "=" + norm, 0
		}
	}
	return "", 17
}

// keys answers the keys of attributes in form.
func keys(s api.Schema, list []api.Attr) map[string]bool {
	out := map[string]bool{}
	for _, a := range list {
		for _, v := range a.Values {
			k, _ := key(s, a.Name, v)
			out[k] = true
		}
	}
	return out
}

// valuesOf answers the values of the attribute of that name.
func valuesOf(list []api.Attr, name string) []string {
	for _, a := range list {
		if small(a.Name) == small(name) {
			return a.Values
		}
	}
	return nil
}

// plainKind answers the structural class of the classes in another way: of all that there are the one whose chain is
// the longest, if the others are in it; and whether there is one.
func plainKind(s api.Schema, classes []string) (string, bool) {
	best := ""
	for _, name := range classes {
		c, ok := schema.Class(s, name)
		if !ok {
			return "", false
		}
		if c.Kind == api.Structural && len(schema.Chain(s, c.Name)) > len(schema.Chain(s, best)) {
			best = c.Name
		}
	}
	for _, name := range classes {
		if c, _ := schema.Class(s, name); c.Kind == api.Structural && !slices.Contains(schema.Chain(s, best), c.Name) {
			return "", false
		}
	}
	return best, best != ""
}

// plainFits is Fits' words said in another way.
func plainFits(s api.Schema, r api.RDN, list []api.Attr) int {
	classes := valuesOf(list, "objectClass")
	if _, ok := plainKind(s, classes); !ok {
		return 65
	}
	allowed := map[string]bool{}
	for _, name := range classes {
		for _, name := range schema.Chain(s, name) {
			c, _ := schema.Class(s, name)
			for _, x := range c.Must {
				allowed[small(x)] = true
				if valuesOf(list, x) == nil {
					return 65
				}
			}
			for _, x := range c.May {
				allowed[small(x)] = true
			}
		}
	}
	for _, a := range list {
		if !allowed[small(a.Name)] {
			return 65
		}
	}
	for _, a := range r {
		k, code := key(s, a.Type, a.Value)
		if code != 0 {
			return code
		}
		if !keys(s, list)[k] {
			return 64
		}
	}
	return 0
}

// plainRenamed is Renamed's words said in another way: value by value, each by a modification of its own.
func plainRenamed(s api.Schema, list []api.Attr, was, now api.RDN, drop bool) ([]api.Attr, int) {
	next := map[string]bool{}
	for _, a := range now {
		k, code := key(s, a.Type, a.Value)
		if code != 0 {
			return nil, code
		}
		next[k] = true
	}
	there, out, code := keys(s, list), list, 0
	change := func(op int, a api.AVA) {
		if code == 0 {
			out, code = entry.Apply(s, out, api.Mod{Op: op, Name: a.Type, Values: []string{a.Value}})
		}
	}
	for _, a := range was {
		if k, wrong := key(s, a.Type, a.Value); drop && wrong == 0 && there[k] && !next[k] {
			change(1, a)
		}
	}
	for _, a := range now {
		if k, _ := key(s, a.Type, a.Value); !there[k] {
			change(0, a)
		}
	}
	return out, code
}

// someAVA answers a type and a value by chance: often one that the attributes have.
func someAVA(r *rand.Rand, list []api.Attr) api.AVA {
	if len(list) > 0 && r.Intn(3) > 0 {
		a := list[r.Intn(len(list))]
		v := a.Values[r.Intn(len(a.Values))]
		return api.AVA{Type: []string{a.Name, strings.ToUpper(a.Name)}[r.Intn(2)], Value: []string{v, strings.ToUpper(v), " " + v}[r.Intn(3)]}
	}
	types := []string{"cn", "CN", "sn", "uid", "ou", "description", "employeeNumber", "active", "no", ""}
	values := []string{"a", "A", "b", "c", "a b", "1", "2", "TRUE", "FALSE", "", "\xff"}
	return api.AVA{Type: types[r.Intn(len(types))], Value: values[r.Intn(len(values))]}
}

// someRDN answers an RDN by chance, of few types and values, also the same ones twice.
func someRDN(r *rand.Rand, list []api.Attr) api.RDN {
	var out api.RDN
	for range r.Intn(4) {
		out = append(out, someAVA(r, list))
	}
	if len(out) > 0 && r.Intn(8) == 0 {
		out = append(out, out[r.Intn(len(out))])
	}
	return out
}

// someAttrs answers attributes in form by chance: such as a class wants, and a few more, or less.
func someAttrs(r *rand.Rand, s api.Schema) []api.Attr {
	classes := []string{"top", "person", "inetPerson", "group", "labelled", "secured", "domain", "PERSON", "no", " person"}
	wide := []api.Attr{{Name: "cn", Values: []string{"a", "B"}}, {Name: "sn", Values: []string{"x"}}, {Name: "description", Values: []string{"d", "e"}}, {Name: "uid", Values: []string{"u"}},
		{Name: "employeeNumber", Values: []string{"1"}}, {Name: "active", Values: []string{"TRUE"}}, {Name: "ou", Values: []string{"a b"}}, {Name: "userPassword", Values: []string{"p", "P"}}, {Name: "createdAt", Values: []string{"1"}}}
	var list []api.Attr
	for _, a := range wide {
		if r.Intn(5) > 0 == (a.Name == "cn" || a.Name == "sn") {
			list = append(list, a)
		}
	}
	named := []string{"inetPerson"}
	if r.Intn(3) > 0 {
		named = nil
	}
	for range r.Intn(4) {
		named = append(named, classes[min(r.Intn(10), r.Intn(10))])
	}
	if len(named) > 0 {
		if all, code := entry.Make(s, append(list, api.Attr{Name: "objectClass", Values: named})...); code == api.Success {
			return all
		}
	}
	out, _ := entry.Make(s, list...)
	return out
}

// renamed answers outcome of Renamed of attributes told as lines, by RDNs told as in a name.
func renamed(t *testing.T, s api.Schema, list []api.Attr, was, now string, drop bool) string {
	t.Helper()
	before := told(list)
	got := outcome(check.Renamed(s, list, rdn(was), rdn(now), drop))
	is(t, "what was handed in", told(list), before)
	return got
}
