package plan_test

import (
	"fmt"
	"slices"
	"sort"
	"strings"
	"testing"

	"castellan/api"
	"castellan/filt"
	"castellan/index"
	"castellan/plan"
	"castellan/schema"
)

// is: a test fails, if something is another thing than was wanted.
func is[T comparable](t *testing.T, what string, got, want T) {
	t.Helper()
	if got != want {
		t.Errorf("%s: %.1000s, wanted %.1000s", what, fmt.Sprint(got), fmt.Sprint(want))
	}
}

// attrs answers attributes, told as lines: a name, a colon, and values with commas between two.
func attrs(lines ...string) []api.Attr {
	var list []api.Attr
	for _, line := range lines {
		name, values, _ := strings.Cut(line, ":")
		list = append(list, api.Attr{Name: name, Values: strings.Split(values, ",")})
	}
	return list
}

// filled answers an index of Core's types of those names (with blanks between two) with those entries, from 1 on, each
// told as a line of attributes with blanks between two.
func filled(t *testing.T, types string, entries ...string) *index.Index {
	t.Helper()
	x, e := index.New(schema.Core(), strings.Fields(types)...)
	if e != api.OK {
		t.Fatalf("New of %s: %v", types, e)
	}
	for i, line := range entries {
		x.Put(i+1, attrs(strings.Fields(line)...))
	}
	return x
}

// filter answers the filter of a text.
func filter(text string) api.Filter {
	f, e := filt.Parse(text)
	if e != api.OK {
		panic(text)
	}
	return f
}

// ids answers a list as a text.
func ids(list []int) string { return strings.Trim(fmt.Sprint(list), "[]") }

// outcome answers what Among tells as a text: all, or a list in brackets.
func outcome(list []int, ok bool) string {
	switch {
	case ok:
		return "[" + ids(list) + "]"
	case len(list) > 0:
		return "all, beside " + ids(list)
	}
	return "all"
}

// among is Among's outcome.
func among(x *index.Index, f api.Filter, wide int) string {
	list, ok := plan.Among(x, f, wide)
	return outcome(list, ok)
}

// plain is Among told in another way: by calls within calls, and by asking of each entry whether it is in lists.
func plain(x *index.Index, f api.Filter, wide int) ([]int, bool) {
	list, ok := plainLeaf(x, f)
	if f.Kind == api.And || f.Kind == api.Or {
		list, ok = nil, f.Kind == api.Or
		met := map[int]int{}
		lists := 0
		for _, kid := range f.Kids {
			below, told := plain(x, kid, wide)
			if told {
				lists++
			}
			for _, id := range below {
				met[id]++
			}
		}
		for id, n := range met {
			if f.Kind == api.Or || n == lists {
				list = append(list, id)
			}
		}
		if f.Kind == api.Or {
			ok = lists == len(f.Kids)
		} else {
			ok = lists > 0
		}
	}
	if !ok || len(list) > wide {
		return nil, false
	}
	sort.Ints(list)
	return list, true
}

// plainLeaf is what plain tells of a filter without parts.
func plainLeaf(x *index.Index, f api.Filter) ([]int, bool) {
	text := map[string]bool{"objectclass": true, "dc": true, "uid": true, "mail": true, "cn": true, "sn": true, "ou": true, "o": true, "description": true}
	name := strings.ToLower(f.Attr)
	switch {
	case !x.Has(name):
		return nil, false
	case f.Kind == api.Equal || f.Kind == api.Approx:
		return x.Equal(name, f.Value), true
	case f.Kind == api.Present:
		return x.Present(name), true
	case f.Kind == api.Pieces && text[name] && plainPieces(f.Pieces):
		return x.Like(name, f.Pieces...), true
	}
	return nil, false
}

// plainPieces tells whether pieces are such as a filter has.
func plainPieces(list []api.Piece) bool {
	var kinds string
	for _, p := range list {
		if p.Text == "" || p.Kind < api.Initial || p.Kind > api.Final {
			return false
		}
		kinds += fmt.Sprint(p.Kind)
	}
	return kinds != "" && strings.LastIndex(kinds, "0") <= 0 && (!strings.Contains(kinds, "2") || strings.Index(kinds, "2") == len(kinds)-1)
}

// inside tells whether all of a list are in another one.
func inside(list, other []int) bool {
	return !slices.ContainsFunc(list, func(id int) bool { return !slices.Contains(other, id) })
}
