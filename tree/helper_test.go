package tree_test

import (
	"fmt"
	"slices"
	"sort"
	"strings"
	"testing"

	"castellan/api"
	"castellan/dn"
	"castellan/tree"
)

// is: a test fails, if something is another thing than was wanted.
func is[T comparable](t *testing.T, what string, got, want T) {
	t.Helper()
	if got != want {
		t.Errorf("%s: %v, wanted %v", what, got, want)
	}
}

// name answers the name of a text.
func name(text string) api.DN {
	d, e := dn.Parse(text)
	if e != api.OK {
		panic(text)
	}
	return d
}

// text answers a name as a text, whether it can be printed or not.
func text(d api.DN) string {
	s, e := dn.Print(d)
	if e != api.OK {
		return fmt.Sprintf("%v of %d RDNs: %.80q", e, len(d), d)
	}
	return s
}

// attr answers attributes: one of that name and values.
func attr(name string, values ...string) []api.Attr {
	return []api.Attr{{Name: name, Values: values}}
}

// told answers attributes as a text.
func told(attrs []api.Attr) string {
	var out []string
	for _, a := range attrs {
		out = append(out, fmt.Sprintf("%s: %q", a.Name, a.Values))
	}
	return strings.Join(out, "; ")
}

// add, del, change and move answer updates of names that are told as texts.
func add(text string, attrs ...api.Attr) api.Update {
	return api.Update{Kind: api.Added, DN: name(text), Attrs: attrs}
}

func del(text string) api.Update { return api.Update{Kind: api.Deleted, DN: name(text)} }

func change(text string, attrs ...api.Attr) api.Update {
	return api.Update{Kind: api.Changed, DN: name(text), Attrs: attrs}
}

func move(text, to string, attrs ...api.Attr) api.Update {
	return api.Update{Kind: api.Moved, DN: name(text), To: name(to), Attrs: attrs}
}

// empty answers a tree of that suffix without entries.
func empty(t *testing.T, suffix api.DN) *tree.Tree {
	t.Helper()
	x, e := tree.New(suffix)
	if e != api.OK || x == nil || x.View == nil {
		t.Fatalf("New(%s) is %v", text(suffix), e)
	}
	return x
}

// grown answers a tree whose first entry is the suffix's own, and that has the others.
func grown(t *testing.T, suffix string, others ...string) *tree.Tree {
	t.Helper()
	x := empty(t, name(suffix))
	for _, s := range append([]string{suffix}, others...) {
		done(t, x, add(s))
	}
	return x
}

// done: an update is done.
func done(t *testing.T, x *tree.Tree, u api.Update) {
	t.Helper()
	does(t, x, u, api.Success)
}

// does: Able and Do answer that code; where it isn't Success, nothing changes, and Able changes nothing at all.
func does(t *testing.T, x *tree.Tree, u api.Update, want int) {
	t.Helper()
	before := all(x.View)
	is(t, fmt.Sprint("Able of ", u.Kind, " ", text(u.DN), " ", text(u.To)), x.Able(u), want)
	is(t, "all behind Able", all(x.View), before)
	is(t, fmt.Sprint("Do of ", u.Kind, " ", text(u.DN), " ", text(u.To)), x.Do(u), want)
	if want != api.Success {
		is(t, "all behind Do", all(x.View), before)
	}
}

// names answers the names of all entries, in order, as a text.
func names(v *tree.View) string {
	return namesOf(v, v.Scope(v.Find(v.Suffix()), 2))
}

// namesOf answers the names of entries as a text.
func namesOf(v *tree.View, ids []int) string {
	var out []string
	for _, id := range ids {
		d, _ := v.Entry(id)
		out = append(out, text(d))
	}
	return strings.Join(out, " | ")
}

// all answers all that a view has as a text: each entry with its ID, name and attributes, in order.
func all(v *tree.View) string {
	var out []string
	for _, id := range v.Scope(v.Find(v.Suffix()), 2) {
		d, attrs := v.Entry(id)
		out = append(out, fmt.Sprint(id, " ", text(d), " ", told(attrs), " ", v.Kids(id)))
	}
	return fmt.Sprint(v.Len(), " ", strings.Join(out, " | "))
}

// row is an entry of a list.
type row struct {
	id    int
	name  api.DN
	attrs []api.Attr
}

// list is a tree told in another way: its entries one by one, without an order.
type list struct {
	suffix api.DN
	rows   []row
	last   int
}

// alike tells whether two names are the same.
func alike(a, b api.DN) bool {
	first, e := dn.Norm(a)
	second, other := dn.Norm(b)
	return e == api.OK && other == api.OK && first == second
}

// find answers the place of the entry of that name; -1, where there is none.
func (l *list) find(d api.DN) int {
	return slices.IndexFunc(l.rows, func(r row) bool { return alike(r.name, d) })
}

// hasParent tells whether there is an entry whose name is that one without its first RDN.
func (l *list) hasParent(d api.DN) bool { return len(d) > 0 && l.find(d[1:]) >= 0 }

// under answers the IDs of those that lie under a name, or only of those that are so many RDNs beneath it, in order.
func (l *list) under(d api.DN, below ...int) []int {
	var rows []row
	for _, r := range l.rows {
		if dn.Under(r.name, d) && (len(below) == 0 || len(r.name) == len(d)+below[0]) {
			rows = append(rows, r)
		}
	}
	sort.Slice(rows, func(i, j int) bool { return slices.Compare(l.way(rows[i].name), l.way(rows[j].name)) < 0 })
	var out []int
	for _, r := range rows {
		out = append(out, r.id)
	}
	return out
}

// way answers the keys of the RDNs of a name, from the last one to the first.
func (l *list) way(d api.DN) []string {
	var out []string
	for i := len(d) - 1; i >= 0; i-- {
		k, _ := dn.Norm(d[i : i+1])
		out = append(out, k)
	}
	return out
}

// matched answers the name of the entry of the most RDNs under which a name lies.
func (l *list) matched(d api.DN) api.DN {
	var best api.DN
	for _, r := range l.rows {
		if dn.Under(d, r.name) && len(r.name) > len(best) {
			best = r.name
		}
	}
	return best
}

// bad tells whether a name can't be printed.
func bad(d api.DN) bool {
	_, e := dn.Print(d)
	return e != api.OK
}

// able is Able's words said in another way.
func (l *list) able(u api.Update) int {
	at := l.find(u.DN)
	switch {
	case u.Kind < 1 || u.Kind > 4:
		return 1
	case u.Kind == 1 && bad(u.DN):
		return 34
	case u.Kind == 1 && at >= 0:
		return 68
	case u.Kind == 1 && !alike(u.DN, l.suffix) && !l.hasParent(u.DN):
		return 32
	case u.Kind == 1 && len(l.rows) >= 4096:
		return 80
	case u.Kind == 1:
		return 0
	case at < 0:
		return 32
	case u.Kind == 2 && len(l.under(u.DN)) > 1:
		return 66
	case u.Kind != 4:
		return 0
	case alike(u.DN, l.suffix):
		return 53
	case bad(u.To) || len(u.To) == 0:
		return 34
	case dn.Under(u.To[1:], u.DN):
		return 53
	case !l.hasParent(u.To):
		return 32
	case l.find(u.To) >= 0 && l.find(u.To) != at:
		return 68
	}
	for _, r := range l.rows {
		if dn.Under(r.name, u.DN) && bad(replaced(r.name, len(u.DN), u.To)) {
			return 34
		}
	}
	return 0
}

// replaced answers a name with other RDNs for so many at its end.
func replaced(d api.DN, count int, by api.DN) api.DN {
	var out api.DN
	out = append(out, d[:len(d)-count]...)
	return append(out, by...)
}

// do does an update that can be done.
func (l *list) do(u api.Update) {
	at := l.find(u.DN)
	switch u.Kind {
	case 1:
		l.last++
		l.rows = append(l.rows, row{l.last, u.DN, u.Attrs})
	case 2:
		l.rows = slices.Delete(slices.Clone(l.rows), at, at+1)
	case 3:
		l.rows[at].attrs = u.Attrs
	case 4:
		l.rows[at].attrs = u.Attrs
		for i, r := range l.rows {
			if dn.Under(r.name, u.DN) {
				l.rows[i].name = replaced(r.name, len(u.DN), u.To)
			}
		}
	}
}

// asList: a view answers all as a list does, also of these names.
func asList(t *testing.T, v *tree.View, l *list, probes ...api.DN) {
	t.Helper()
	is(t, "Suffix", text(v.Suffix()), text(l.suffix))
	is(t, "Len", v.Len(), len(l.rows))
	for id := -1; id < l.last+3; id++ {
		at := slices.IndexFunc(l.rows, func(r row) bool { return r.id == id })
		if at < 0 {
			absent(t, v, id)
			continue
		}
		r := l.rows[at]
		d, attrs := v.Entry(id)
		is(t, "Entry's name", text(d), text(r.name))
		is(t, "Entry's attributes", told(attrs), told(r.attrs))
		is(t, "Kids", v.Kids(id), len(l.under(r.name, 1)))
		is(t, "Scope 0", fmt.Sprint(v.Scope(id, 0)), fmt.Sprint([]int{id}))
		is(t, "Scope 1", fmt.Sprint(v.Scope(id, 1)), fmt.Sprint(l.under(r.name, 1)))
		is(t, "Scope 2", fmt.Sprint(v.Scope(id, 2)), fmt.Sprint(l.under(r.name)))
		probes = append(probes, r.name, slices.Insert(slices.Clone(r.name), 0, name("cn=below")...), r.name[1:])
	}
	for _, d := range probes {
		want := 0
		if at := l.find(d); at >= 0 {
			want = l.rows[at].id
		}
		is(t, "Find of "+text(d), v.Find(d), want)
		is(t, "Matched of "+text(d), text(v.Matched(d)), text(l.matched(d)))
	}
}

// absent: there is no entry of that ID.
func absent(t *testing.T, v *tree.View, id int) {
	t.Helper()
	d, attrs := v.Entry(id)
	is(t, "Entry of none: RDNs", len(d), 0)
	is(t, "Entry of none: attributes", len(attrs), 0)
	is(t, "Kids of none", v.Kids(id), 0)
	for scope := -1; scope < 4; scope++ {
		is(t, "Scope of none", len(v.Scope(id, scope)), 0)
	}
}
