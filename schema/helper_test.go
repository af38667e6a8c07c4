package schema_test

import (
	"fmt"
	"math/rand"
	"reflect"
	"regexp"
	"slices"
	"sort"
	"strings"
	"testing"

	"castellan/api"
	"castellan/schema"
)

// is: a test fails, if something is another thing than was wanted.
func is[T comparable](t *testing.T, what string, got, want T) {
	t.Helper()
	if got != want {
		t.Errorf("%s: %v, wanted %v", what, got, want)
	}
}

// words answers what stands between blanks.
func words(s string) []string { return strings.Fields(s) }

// told answers words, with one blank between two.
func told(list []string) string { return strings.Join(list, " ") }

// with answers a schema of objectClass, some types of the syntax Text, and these classes.
func with(types string, classes ...api.Class) api.Schema {
	s := api.Schema{Types: []api.Type{{Name: "objectClass", Syntax: api.Ascii}}, Classes: classes}
	for _, name := range words(types) {
		s.Types = append(s.Types, api.Type{Name: name, Syntax: api.Text})
	}
	return s
}

// class answers a class: its Must and May are told as words.
func class(name, sup string, kind int, must, may string) api.Class {
	return api.Class{Name: name, Sup: sup, Kind: kind, Must: words(must), May: words(may)}
}

// copied answers the same schema in other memory, with spare room behind each list.
func copied(s api.Schema) api.Schema {
	out := api.Schema{Types: append(make([]api.Type, 0, len(s.Types)+3), s.Types...), Classes: append(make([]api.Class, 0, len(s.Classes)+3), s.Classes...)}
	for i, c := range out.Classes {
		out.Classes[i].Must = append(make([]string, 0, len(c.Must)+3), c.Must...)
		out.Classes[i].May = append(make([]string, 0, len(c.May)+3), c.May...)
	}
	return out
}

// whole answers all of a schema's memory as a text: spare room, too.
func whole(s api.Schema) string {
	out := fmt.Sprintf("%+v", s.Types[:cap(s.Types)])
	for _, c := range s.Classes[:cap(s.Classes)] {
		out += fmt.Sprintf(" %s %s %d %q %q", c.Name, c.Sup, c.Kind, c.Must[:cap(c.Must)], c.May[:cap(c.May)])
	}
	return out
}

// Another way to say what a schema that may be is.
var typeForm = regexp.MustCompile(`\A[A-Za-z][A-Za-z0-9-]{0,31}\z`)

// small is Fold in another way; of bytes that are no ASCII it takes none.
func small(name string) string {
	return strings.Map(func(r rune) rune {
		if r >= 'A' && r <= 'Z' {
			return r + 32
		}
		return r
	}, name)
}

// plainCheck is Check's words said in another way.
func plainCheck(s api.Schema) api.Errno {
	if len(s.Types) > 128 || len(s.Classes) > 128 {
		return api.ErrMany
	}
	types, classes := map[string]api.Type{}, map[string]api.Class{}
	for _, x := range s.Types {
		if !typeForm.MatchString(x.Name) {
			return api.ErrName
		}
		if _, twice := types[small(x.Name)]; twice {
			return api.ErrTwice
		}
		if x.Syntax <= 0 || x.Syntax >= 9 {
			return api.ErrValue
		}
		types[small(x.Name)] = x
	}
	for _, c := range s.Classes {
		if e := plainClass(c, types, classes); e != api.OK {
			return e
		}
		classes[small(c.Name)] = c
	}
	root, ok := types["objectclass"]
	switch {
	case !ok:
		return api.ErrNone
	case root.Single || root.Syntax != 3:
		return api.ErrArg
	}
	return api.OK
}

// plainClass is what plainCheck says of a class, by the types there are, and the classes ahead of it.
func plainClass(c api.Class, types map[string]api.Type, classes map[string]api.Class) api.Errno {
	if !typeForm.MatchString(c.Name) {
		return api.ErrName
	}
	if _, twice := classes[small(c.Name)]; twice {
		return api.ErrTwice
	}
	if c.Kind < 0 || c.Kind > 2 {
		return api.ErrValue
	}
	sup, ok := classes[small(c.Sup)]
	if c.Sup != "" && !ok {
		return api.ErrNone
	}
	if c.Sup == "" && c.Kind != 0 || c.Sup != "" && !slices.Contains([]string{"0 above 0", "0 above 1", "0 above 2", "1 above 1", "2 above 2"}, fmt.Sprint(sup.Kind, " above ", c.Kind)) {
		return api.ErrArg
	}
	for _, name := range append(append([]string{}, c.Must...), c.May...) {
		if _, ok := types[small(name)]; !ok {
			return api.ErrNone
		}
	}
	return api.OK
}

// plainChain is Chain's words said in another way, of a schema that may be.
func plainChain(s api.Schema, name string) []string {
	for _, c := range s.Classes {
		if small(c.Name) == small(name) {
			return append([]string{c.Name}, plainChain(s, c.Sup)...)
		}
	}
	return nil
}

// plainClassOf answers the class of that name, in a schema that has it.
func plainClassOf(s api.Schema, name string) api.Class {
	for _, c := range s.Classes {
		if small(c.Name) == small(name) {
			return c
		}
	}
	panic("no class " + name)
}

// plainWants is Wants' words said in another way.
func plainWants(s api.Schema, classes []string) ([]string, []string) {
	must, may := map[string]bool{}, map[string]bool{}
	for _, name := range classes {
		for _, name := range plainChain(s, name) {
			for _, x := range plainClassOf(s, name).Must {
				must[small(x)] = true
			}
			for _, x := range plainClassOf(s, name).May {
				may[small(x)] = true
			}
		}
	}
	for name := range must {
		delete(may, name)
	}
	return keys(must), keys(may)
}

// keys answers a map's keys, rising.
func keys(m map[string]bool) []string {
	var out []string
	for k := range m {
		out = append(out, k)
	}
	sort.Strings(out)
	return out
}

// plainKind is Kind's words said in another way.
func plainKind(s api.Schema, classes []string) (string, bool) {
	structural := map[string]bool{}
	for _, name := range classes {
		if len(plainChain(s, name)) == 0 {
			return "", false
		}
		if c := plainClassOf(s, name); c.Kind == 1 {
			structural[c.Name] = true
		}
	}
	for name := range structural {
		all := true
		for other := range structural {
			all = all && slices.Contains(plainChain(s, name), other)
		}
		if all {
			return name, true
		}
	}
	return "", false
}

// someSchema answers a schema by chance that may be: with types a0 to a9, and classes c0 to c9 in some letters' sizes.
func someSchema(r *rand.Rand) api.Schema {
	s := api.Schema{}
	for _, i := range r.Perm(10) {
		s.Types = append(s.Types, api.Type{Name: sized(r, fmt.Sprint("a", i)), Syntax: 1 + r.Intn(8), Single: r.Intn(2) == 0, Oper: r.Intn(2) == 0})
	}
	s.Types = slices.Insert(s.Types, r.Intn(10), api.Type{Name: sized(r, "objectClass"), Syntax: api.Ascii, Oper: r.Intn(2) == 0})
	for i := range 10 {
		c := api.Class{Name: sized(r, fmt.Sprint("c", i))}
		if i > 0 && r.Intn(5) > 0 {
			sup := s.Classes[r.Intn(i)]
			c.Sup, c.Kind = sized(r, sup.Name), sup.Kind
			if c.Kind == api.Abstract {
				c.Kind = r.Intn(3)
			}
		}
		for range r.Intn(3) {
			c.Must = append(c.Must, sized(r, s.Types[r.Intn(11)].Name))
			c.May = append(c.May, sized(r, s.Types[r.Intn(11)].Name))
		}
		s.Classes = append(s.Classes, c)
	}
	return s
}

// sized answers a name with some letters small and some great.
func sized(r *rand.Rand, name string) string {
	out := []byte(name)
	for i := range out {
		if c := string(out[i : i+1]); r.Intn(3) == 0 {
			out[i] = strings.ToUpper(c)[0]
		} else if r.Intn(3) == 0 {
			out[i] = strings.ToLower(c)[0]
		}
	}
	return string(out)
}

// spoiled answers a schema that has become another one at some place: often one that may not be.
func spoiled(r *rand.Rand, s api.Schema) api.Schema {
	s = copied(s)
	x, c := &s.Types[r.Intn(len(s.Types))], &s.Classes[r.Intn(len(s.Classes))]
	names := []string{"", "1", "a_b", "a", "objectClass", "OBJECTCLASS", "c0", "C5", "a0", "A9", "é", strings.Repeat("a", 32), strings.Repeat("a", 33)}
	name := names[r.Intn(len(names))]
	switch r.Intn(9) {
	case 0:
		x.Name = name
	case 1:
		x.Syntax = r.Intn(14) - 3
	case 2:
		x.Single = !x.Single
	case 3:
		c.Name = name
	case 4:
		c.Sup = name
	case 5:
		c.Kind = r.Intn(6) - 2
	case 6:
		c.Must = append(c.Must, name)
	case 7:
		c.May = append(c.May, name)
	case 8:
		i, j := r.Intn(len(s.Classes)), r.Intn(len(s.Classes))
		s.Classes[i], s.Classes[j] = s.Classes[j], s.Classes[i]
	}
	return s
}

// everything asks all that can be asked of a schema, whether it may be or not: it ends, and a second time it is the same.
func everything(t *testing.T, s api.Schema, names ...string) {
	t.Helper()
	ask := func() []any {
		lines, more := schema.Lines(s)
		out := []any{schema.Check(s), lines, more}
		for _, name := range names {
			x, found := schema.Find(s, name)
			c, there := schema.Class(s, name)
			out = append(out, x, found, c, there, schema.Chain(s, name))
		}
		must, may := schema.Wants(s, names...)
		kind, ok := schema.Kind(s, names...)
		return append(out, must, may, kind, ok)
	}
	if first, second := ask(), ask(); !reflect.DeepEqual(first, second) {
		t.Errorf("not the same again: %v, %v", first, second)
	}
}
