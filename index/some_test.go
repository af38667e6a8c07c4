package index_test

import (
	"fmt"
	"math/rand"
	"slices"
	"testing"

	"castellan/api"
	"castellan/entry"
	"castellan/index"
	"castellan/syntax"
)

// asked: what an index answers of a type is what the book has.
func asked(t *testing.T, x *index.Index, b book, name, value string, list []api.Piece) {
	t.Helper()
	is(t, "All", ids(x.All()), b.all())
	is(t, "Present of "+name, ids(x.Present(name)), b.present(name))
	is(t, fmt.Sprintf("Equal of %s: %q", name, value), ids(x.Equal(name, value)), b.equal(name, value))
	is(t, fmt.Sprintf("Like of %s: %v", name, list), ids(x.Like(name, list...)), b.like(name, list))
}

// somePieces answers pieces such as a filter may have, mostly parts of a text.
func somePieces(r *rand.Rand, text string) []api.Piece {
	var list []api.Piece
	for n := 1 + r.Intn(3); n > 0; n-- {
		part := someText(r, "aAbB c ", 1+r.Intn(4))
		if len(text) > 0 && r.Intn(8) > 0 {
			from := r.Intn(len(text))
			part = text[from : from+1+r.Intn(len(text)-from)]
		}
		list = append(list, api.Piece{Kind: api.Any, Text: part})
	}
	if r.Intn(4) == 0 {
		list[0].Kind = api.Initial
	}
	if last := len(list) - 1; r.Intn(4) == 0 && (last > 0 || list[0].Kind == api.Any) {
		list[last].Kind = api.Final
	}
	return list
}

// P19.1, P19.2: entries that come and go by chance, asked for by chance, as the book has them.
func TestSome(t *testing.T) {
	r := rand.New(rand.NewSource(19))
	some, none, alike := 0, 0, 0
	for range 60 {
		b := book{schema: mixed(), entries: map[int][]api.Attr{}}
		for _, name := range names(mixed()) {
			if r.Intn(3) > 0 {
				b.indexed = append(b.indexed, name)
			}
		}
		x := made(t, mixed(), b.indexed...)
		for range 60 {
			id := r.Intn(12) - 2
			if r.Intn(4) == 0 {
				x.Drop(id)
				delete(b.entries, id)
			} else {
				b.entries[id] = someAttrs(t, r, mixed())
				x.Put(id, b.entries[id])
			}
			typ := mixed().Types[r.Intn(len(mixed().Types))]
			value := someValue(r, typ.Syntax)
			asked(t, x, b, typ.Name, value, somePieces(r, value))
			for _, list := range b.entries {
				if own := entry.Get(list, typ.Name); len(own) > 0 {
					asked(t, x, b, typ.Name, own[0], somePieces(r, own[0]))
				}
			}
			if len(x.Equal(typ.Name, value)) > 1 {
				alike++
			}
			if len(x.Like(typ.Name, somePieces(r, value)...)) > 0 {
				some++
			} else {
				none++
			}
		}
	}
	if some < 300 || none < 300 || alike < 100 {
		t.Errorf("too few: %d with some, %d with none, %d of several", some, none, alike)
	}
}

// P19.3: an entry that has a value which has the pieces is among those that Like tells.
func TestLikeHas(t *testing.T) {
	r := rand.New(rand.NewSource(193))
	found, more := 0, 0
	for range 400 {
		x := made(t, mixed(), names(mixed())...)
		entries := map[int][]api.Attr{}
		for id := range 8 {
			entries[id] = someAttrs(t, r, mixed())
			x.Put(id, entries[id])
		}
		typ := mixed().Types[r.Intn(3)]
		own := append(entry.Get(entries[r.Intn(8)], typ.Name), "abc")
		list := somePieces(r, own[0])
		told := x.Like(typ.Name, list...)
		for id, attrs := range entries {
			has := slices.ContainsFunc(entry.Get(attrs, typ.Name), func(value string) bool {
				yes, _ := syntax.Like(typ.Syntax, value, list...)
				return yes
			})
			switch in := slices.Contains(told, id); {
			case has && !in:
				t.Errorf("%v has %v, but isn't told", attrs, list)
			case has:
				found++
			case in:
				more++
			}
		}
	}
	if found < 200 || more < 100 {
		t.Errorf("too few: %d that have the pieces, %d that are told besides", found, more)
	}
}

// P19.3: in what order entries come and go makes no difference, but for the last Put of each.
func TestAnyOrder(t *testing.T) {
	r := rand.New(rand.NewSource(3))
	for range 100 {
		last := map[int][]api.Attr{}
		for id := range 6 {
			last[id] = someAttrs(t, r, mixed())
		}
		value := someText(r, "aAbB c ", 4)
		answers := func(x *index.Index) string {
			var out []string
			for _, name := range names(mixed()) {
				out = append(out, fmt.Sprint(x.Present(name), x.Equal(name, value), x.Like(name, pieces(value)...), x.All()))
				for _, list := range last {
					for _, own := range entry.Get(list, name) {
						out = append(out, fmt.Sprint(own, x.Equal(name, own), x.Like(name, pieces(own)...)))
					}
				}
			}
			slices.Sort(out)
			return fmt.Sprint(out)
		}
		first := made(t, mixed(), names(mixed())...)
		for id := range 6 {
			first.Put(id, last[id])
		}
		second := made(t, mixed(), names(mixed())...)
		for range 20 {
			if id := r.Intn(9); r.Intn(3) == 0 {
				second.Drop(id)
			} else {
				second.Put(id, someAttrs(t, r, mixed()))
			}
		}
		for id := 6; id < 9; id++ {
			second.Drop(id)
		}
		for _, id := range r.Perm(6) {
			second.Put(id, last[id])
		}
		is(t, "in another order", answers(second), answers(first))
	}
}
