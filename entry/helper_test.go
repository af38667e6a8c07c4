package entry_test

import (
	"fmt"
	"math/rand"
	"reflect"
	"sort"
	"strings"
	"testing"

	"castellan/api"
	"castellan/entry"
	"castellan/schema"
	"castellan/syntax"
)

// is: a test fails, if something is another thing than was wanted.
func is[T comparable](t *testing.T, what string, got, want T) {
	t.Helper()
	if got != want {
		t.Errorf("%s: %v, wanted %v", what, got, want)
	}
}

// attr answers an attribute.
func attr(name string, values ...string) api.Attr { return api.Attr{Name: name, Values: values} }

// add, del and rep answer modifications.
func add(name string, values ...string) api.Mod {
	return api.Mod{Op: api.ModAdd, Name: name, Values: values}
}

func del(name string, values ...string) api.Mod {
	return api.Mod{Op: api.ModDelete, Name: name, Values: values}
}

func rep(name string, values ...string) api.Mod {
	return api.Mod{Op: api.ModReplace, Name: name, Values: values}
}

// told answers attributes as a text.
func told(attrs []api.Attr) string {
	var out []string
	for _, a := range attrs {
		out = append(out, fmt.Sprintf("%s: %q", a.Name, a.Values))
	}
	return strings.Join(out, "; ")
}

// outcome answers attributes as a text, or a code that isn't Success; something else, where attributes stand beside one.
func outcome(attrs []api.Attr, code int) string {
	switch {
	case code == api.Success:
		return told(attrs)
	case len(attrs) > 0:
		return fmt.Sprint(code, " beside ", told(attrs))
	}
	return fmt.Sprint(code)
}

// made answers attributes that can be made.
func made(t *testing.T, s api.Schema, list ...api.Attr) []api.Attr {
	t.Helper()
	attrs, code := entry.Make(s, list...)
	if code != api.Success {
		t.Fatalf("Make of %s: %d", told(list), code)
	}
	return attrs
}

// row is one value of an attribute, by the place of its type in the schema.
type row struct {
	at         int
	norm, text string
}

// sheet is attributes told in another way: each value is a row.
type sheet struct {
	s    api.Schema
	rows []row
}

// typeAt answers the place of a type; -1, where there is none.
func (x *sheet) typeAt(name string) int {
	for i, t := range x.s.Types {
		if small(t.Name) == small(name) {
			return i
		}
	}
	return -1
}

// small is Fold in another way.
func small(name string) string {
	return strings.Map(func(r rune) rune {
		if r >= 'A' && r <= 'Z' {
			return r + 32
		}
		return r
	}, name)
}

// count answers how many values there are of a type; with a normal form, how many have that.
func (x *sheet) count(at int, norm ...string) int {
	n := 0
	for _, r := range x.rows {
		if r.at == at && (len(norm) == 0 || r.norm == norm[0]) {
			n++
		}
	}
	return n
}

// without takes out the values of a type; with a normal form, those that have that.
func (x *sheet) without(at int, norm ...string) {
	var left []row
	for _, r := range x.rows {
		if r.at != at || len(norm) > 0 && r.norm != norm[0] {
			left = append(left, r)
		}
	}
	x.rows = left
}

// plus adds values, as Make and ModAdd do.
func (x *sheet) plus(at int, values []string) int {
	for _, v := range values {
		norm, ok := syntax.Norm(x.s.Types[at].Syntax, v)
		if !ok {
			return 21
		}
		if x.count(at, norm) > 0 {
			return 20
		}
		x.rows = append(x.rows, row{at, norm, v})
	}
	if x.s.Types[at].Single && x.count(at) > 1 {
		return 19
	}
	return 0
}

// minus takes values out, as ModDelete does.
func (x *sheet) minus(at int, values []string) int {
	if len(values) == 0 && x.count(at) == 0 {
		return 16
	}
	if len(values) == 0 {
		x.without(at)
	}
	for _, v := range values {
		norm, ok := syntax.Norm(x.s.Types[at].Syntax, v)
		if !ok {
			return 21
		}
		if x.count(at, norm) == 0 {
			return 16
		}
		x.without(at, norm)
	}
	return 0
}

// attrs answers the attributes of a sheet.
func (x *sheet) attrs() []api.Attr {
	sort.Slice(x.rows, func(i, j int) bool {
		a, b := x.rows[i], x.rows[j]
		if a.at != b.at {
			return small(x.s.Types[a.at].Name) < small(x.s.Types[b.at].Name)
		}
		return a.norm < b.norm
	})
	var out []api.Attr
	for i, r := range x.rows {
		if i == 0 || x.rows[i-1].at != r.at {
			out = append(out, api.Attr{Name: x.s.Types[r.at].Name})
		}
		out[len(out)-1].Values = append(out[len(out)-1].Values, r.text)
	}
	return out
}

// plainMake is Make's words said in another way.
func plainMake(s api.Schema, list []api.Attr) (*sheet, int) {
	x := &sheet{s: s}
	for _, a := range list {
		at := x.typeAt(a.Name)
		if at < 0 {
			return nil, 17
		}
		if len(a.Values) == 0 {
			return nil, 19
		}
		if code := x.plus(at, a.Values); code != 0 {
			return nil, code
		}
	}
	return x, 0
}

// plainApply is Apply's words said in another way, of attributes in form.
func plainApply(s api.Schema, attrs []api.Attr, mods []api.Mod) ([]api.Attr, int) {
	x, _ := plainMake(s, attrs)
	for _, m := range mods {
		if code := x.modify(m); code != 0 {
			return nil, code
		}
	}
	return x.attrs(), 0
}

// modify does a modification.
func (x *sheet) modify(m api.Mod) int {
	at := x.typeAt(m.Name)
	switch {
	case m.Op < 0 || m.Op > 2:
		return 2
	case at < 0:
		return 17
	case m.Op == 0 && len(m.Values) == 0:
		return 2
	case m.Op == 1:
		return x.minus(at, m.Values)
	case m.Op == 2:
		x.without(at)
	}
	return x.plus(at, m.Values)
}

// formed: a test fails, if attributes aren't in form.
func formed(t *testing.T, s api.Schema, attrs []api.Attr) {
	t.Helper()
	for i, a := range attrs {
		kind, ok := schema.Find(s, a.Name)
		if !ok || kind.Name != a.Name || i > 0 && small(attrs[i-1].Name) >= small(a.Name) {
			t.Errorf("%s stands at %d of %s", a.Name, i, told(attrs))
		}
		if len(a.Values) == 0 || kind.Single && len(a.Values) > 1 {
			t.Errorf("%s has %d values", a.Name, len(a.Values))
		}
		ahead := ""
		for j, v := range a.Values {
			norm, ok := syntax.Norm(kind.Syntax, v)
			if !ok || j > 0 && norm <= ahead {
				t.Errorf("%q stands at %d of %s", v, j, told(attrs))
			}
			ahead = norm
		}
	}
}

// samples are values of many syntaxes, several of which have one normal form, and some that are none.
var samples = []string{"a", "A", " a ", "b", "B", "a b", "A  B", "TRUE", "FALSE", "0", "7", "-1", "10", "9", "cn=a", "CN=A", "cn=a+sn=b", "SN=B+cn=a", "20240229235959Z", "", " ", "\xff", "é", "É", strings.Repeat("a", 4096), strings.Repeat("a", 4097)}

// names are types of Core in some letters' sizes, and one that is none.
var names = []string{"cn", "CN", "sn", "description", "DESCRIPTION", "member", "userPassword", "employeeNumber", "EMPLOYEENUMBER", "active", "uid", "Uid", "pwdFailure", "changedAt", "objectClass"}

// someValues answers values by chance, mostly such as the type may have.
func someValues(r *rand.Rand, s api.Schema, name string, most int) []string {
	var out []string
	for range r.Intn(most + 1) {
		v := samples[r.Intn(len(samples))]
		kind, found := schema.Find(s, name)
		for range 5 {
			if _, ok := syntax.Norm(kind.Syntax, v); !found || ok || r.Intn(12) == 0 {
				break
			}
			v = samples[r.Intn(len(samples))]
		}
		out = append(out, v)
	}
	return out
}

// someName answers a name by chance, seldom one that is none.
func someName(r *rand.Rand) string {
	if r.Intn(40) == 0 {
		return []string{"no", "", "c", "cnn", "\xff", "person"}[r.Intn(6)]
	}
	return names[r.Intn(len(names))]
}

// someList answers a list of attributes by chance.
func someList(r *rand.Rand, s api.Schema, most int) []api.Attr {
	var out []api.Attr
	for range r.Intn(most + 1) {
		name := someName(r)
		values := someValues(r, s, name, 3)
		if len(values) == 0 && r.Intn(4) > 0 {
			continue
		}
		out = append(out, api.Attr{Name: name, Values: values})
	}
	return out
}

// someMods answers modifications by chance.
func someMods(r *rand.Rand, s api.Schema, most int) []api.Mod {
	var out []api.Mod
	for range r.Intn(most + 1) {
		m := api.Mod{Op: r.Intn(3), Name: someName(r)}
		if r.Intn(60) == 0 {
			m.Op = []int{-1, 3, 256, 1 << 32}[r.Intn(4)]
		}
		m.Values = someValues(r, s, m.Name, 2)
		out = append(out, m)
	}
	return out
}

// someForm answers attributes in form by chance.
func someForm(r *rand.Rand, s api.Schema) []api.Attr {
	for {
		if attrs, code := entry.Make(s, someList(r, s, 4)...); code == api.Success {
			return attrs
		}
	}
}

// roomy answers the same attributes in other memory, with spare room behind each list.
func roomy(attrs []api.Attr) []api.Attr {
	out := make([]api.Attr, len(attrs), len(attrs)+2)
	for i, a := range attrs {
		out[i] = api.Attr{Name: a.Name, Values: append(make([]string, 0, len(a.Values)+2), a.Values...)}
	}
	return out
}

// whole answers all memory of attributes as a text: spare room, too.
func whole(attrs []api.Attr) string {
	out := ""
	for _, a := range attrs[:cap(attrs)] {
		out += fmt.Sprintf("%q: %q; ", a.Name, a.Values[:cap(a.Values)])
	}
	return out
}

// spoil writes over attributes and all their spare room.
func spoil(attrs []api.Attr) {
	attrs = attrs[:cap(attrs)]
	for i := range attrs {
		values := attrs[i].Values[:cap(attrs[i].Values)]
		for j := range values {
			values[j] = "spoiled"
		}
		attrs[i].Name = "spoiled"
	}
}

// everything asks all that can be asked of attributes, in form or not: it ends, and a second time it is the same.
func everything(t *testing.T, s api.Schema, attrs []api.Attr, mods []api.Mod, name, value string) {
	t.Helper()
	ask := func() []any {
		list, code := entry.Make(s, attrs...)
		behind, done := entry.Apply(s, attrs, mods...)
		return []any{list, code, behind, done, entry.Get(attrs, name), entry.Has(s, attrs, name, value)}
	}
	if first, second := ask(), ask(); !reflect.DeepEqual(first, second) {
		t.Errorf("not the same again: %v, %v", first, second)
	}
}
