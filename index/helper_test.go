package index_test

import (
	"fmt"
	"math/rand"
	"slices"
	"sort"
	"strings"
	"testing"

	"castellan/api"
	"castellan/entry"
	"castellan/index"
	"castellan/syntax"
)

// is: a test fails, if something is another thing than was wanted.
func is[T comparable](t *testing.T, what string, got, want T) {
	t.Helper()
	if got != want {
		t.Errorf("%s: %.1000s, wanted %.1000s", what, fmt.Sprint(got), fmt.Sprint(want))
	}
}

// attrs answers attributes, told as lines: a name, a colon, and values with commas between two.
func attrs(lines ...string) []api.Attr {
	var list []api.Attr
	for _, line := range lines {
		name, values, ok := strings.Cut(line, ":")
		a := api.Attr{Name: name}
		if ok {
			a.Values = strings.Split(values, ",")
		}
		list = append(list, a)
	}
	return list
}

// pieces answers Any pieces of those texts.
func pieces(texts ...string) []api.Piece {
	var list []api.Piece
	for _, text := range texts {
		list = append(list, api.Piece{Kind: api.Any, Text: text})
	}
	return list
}

// mixed answers a schema with a type of each syntax, and a second one of Text; each is named as its syntax.
func mixed() api.Schema {
	return api.Schema{Types: []api.Type{
		{Name: "text", Syntax: api.Text}, {Name: "exact", Syntax: api.Exact}, {Name: "ascii", Syntax: api.Ascii},
		{Name: "number", Syntax: api.Number}, {Name: "truth", Syntax: api.Truth}, {Name: "name", Syntax: api.Name},
		{Name: "octets", Syntax: api.Octets}, {Name: "time", Syntax: api.Time}, {Name: "Other-Text", Syntax: api.Text},
		{Name: "objectClass", Syntax: api.Ascii},
	}}
}

// names answers the names of a schema's types.
func names(s api.Schema) []string {
	var out []string
	for _, t := range s.Types {
		out = append(out, t.Name)
	}
	return out
}

// made answers an index of those types.
func made(t *testing.T, s api.Schema, types ...string) *index.Index {
	t.Helper()
	x, e := index.New(s, types...)
	if e != api.OK || x == nil {
		t.Fatalf("New of %v: %v", types, e)
	}
	return x
}

// ids answers a list as a text.
func ids(list []int) string { return strings.Trim(fmt.Sprint(list), "[]") }

// book is an index told in another way: entries that are gone through one by one.
type book struct {
	schema  api.Schema
	indexed []string
	entries map[int][]api.Attr
}

// typeOf answers the type of a name, if it is indexed.
func (b book) typeOf(name string) (api.Type, bool) {
	for _, t := range b.schema.Types {
		if strings.EqualFold(t.Name, name) {
			return t, slices.ContainsFunc(b.indexed, func(other string) bool { return strings.EqualFold(other, name) })
		}
	}
	return api.Type{}, false
}

// those answers the IDs of the entries that have the attribute, and of whose values' normal forms that is true.
func (b book) those(name string, so func(norms []string) bool) string {
	t, ok := b.typeOf(name)
	if !ok {
		return ""
	}
	var out []int
	for id, list := range b.entries {
		var norms []string
		for _, value := range entry.Get(list, name) {
			norm, _ := syntax.Norm(t.Syntax, value)
			norms = append(norms, norm)
		}
		if len(norms) > 0 && so(norms) {
			out = append(out, id)
		}
	}
	sort.Ints(out)
	return ids(out)
}

func (b book) all() string {
	var out []int
	for id := range b.entries {
		out = append(out, id)
	}
	sort.Ints(out)
	return ids(out)
}

func (b book) present(name string) string {
	return b.those(name, func([]string) bool { return true })
}

func (b book) equal(name, value string) string {
	t, _ := b.typeOf(name)
	wanted, ok := syntax.Norm(t.Syntax, value)
	return b.those(name, func(norms []string) bool { return ok && slices.Contains(norms, wanted) })
}

func (b book) like(name string, list []api.Piece) string {
	t, _ := b.typeOf(name)
	return b.those(name, func(norms []string) bool {
		for _, p := range list {
			text := p.Text
			if t.Syntax != api.Exact {
				text = small(text)
			}
			for at := 0; at+3 <= len(text); at++ {
				if !slices.ContainsFunc(norms, func(norm string) bool { return strings.Contains(norm, text[at:at+3]) }) {
					return false
				}
			}
		}
		return true
	})
}

// small is Fold in another way.
func small(text string) string {
	out := []byte(text)
	for i, c := range out {
		if c >= 'A' && c <= 'Z' {
			out[i] = c + 32
		}
	}
	return string(out)
}

// someText answers a text of so many of the letters.
func someText(r *rand.Rand, letters string, length int) string {
	out := make([]byte, length)
	for i := range out {
		out[i] = letters[r.Intn(len(letters))]
	}
	return string(out)
}

// someValue answers a value that the syntax has.
func someValue(r *rand.Rand, syn int) string {
	switch syn {
	case api.Number:
		return fmt.Sprint(r.Intn(4000) - 2000)
	case api.Truth:
		return []string{"TRUE", "FALSE"}[r.Intn(2)]
	case api.Name:
		return "cn=" + someText(r, "aAbB", 1+r.Intn(5)) + []string{"", ",dc=Z"}[r.Intn(2)]
	case api.Time:
		return fmt.Sprintf("%04d1231235959Z", r.Intn(20))
	}
	return someText(r, "aAbB c ", 1+r.Intn(9))
}

// someAttrs answers attributes in form: for each type perhaps some values.
func someAttrs(t *testing.T, r *rand.Rand, s api.Schema) []api.Attr {
	t.Helper()
	var list []api.Attr
	for _, typ := range s.Types {
		seen := map[string]bool{}
		for range r.Intn(4) {
			value := someValue(r, typ.Syntax)
			if norm, ok := syntax.Norm(typ.Syntax, value); ok && !seen[norm] {
				seen[norm] = true
				list = append(list, api.Attr{Name: typ.Name, Values: []string{value}})
			}
		}
	}
	made, code := entry.Make(s, list...)
	if code != api.Success {
		t.Fatalf("Make of %v: %d", list, code)
	}
	return made
}
