package truth_test

import (
	"fmt"
	"math/big"
	"math/rand"
	"regexp"
	"strings"
	"testing"

	"castellan/api"
	"castellan/entry"
	"castellan/filt"
	"castellan/syntax"
	"castellan/truth"
)

// is: a test fails, if something is another thing than was wanted.
func is[T comparable](t *testing.T, what string, got, want T) {
	t.Helper()
	if got != want {
		t.Errorf("%.2000s: %.1000s, wanted %.1000s", what, fmt.Sprint(got), fmt.Sprint(want))
	}
}

// mixed answers a schema with a type of each syntax, each named as that, and a second one of Text.
func mixed() api.Schema {
	return api.Schema{Types: []api.Type{
		{Name: "text", Syntax: api.Text}, {Name: "exact", Syntax: api.Exact}, {Name: "ascii", Syntax: api.Ascii},
		{Name: "number", Syntax: api.Number}, {Name: "truth", Syntax: api.Truth}, {Name: "name", Syntax: api.Name},
		{Name: "octets", Syntax: api.Octets}, {Name: "time", Syntax: api.Time}, {Name: "Other-Text", Syntax: api.Text},
		{Name: "objectClass", Syntax: api.Ascii},
	}}
}

// attrs answers attributes in form, told as lines: a name, a colon, and values with | between two.
func attrs(t *testing.T, s api.Schema, lines ...string) []api.Attr {
	t.Helper()
	var list []api.Attr
	for _, line := range lines {
		name, values, _ := strings.Cut(line, ":")
		list = append(list, api.Attr{Name: name, Values: strings.Split(values, "|")})
	}
	out, code := entry.Make(s, list...)
	if code != api.Success {
		t.Fatalf("Make of %q: %d", lines, code)
	}
	return out
}

// full answers attributes that have all of mixed's types but Other-Text and objectClass.
func full(t *testing.T) []api.Attr {
	t.Helper()
	return attrs(t, mixed(), "text:Ab  C|x", "exact:Ab  C|x", "ascii:Ab  C| |x", "number:-3|10", "truth:TRUE", "name:CN=A,dc=z|", "octets:Ab\xff|", "time:20240229120000Z")
}

// filter answers the filter of a text.
func filter(text string) api.Filter {
	f, e := filt.Parse(text)
	if e != api.OK {
		panic(text)
	}
	return f
}

// of answers the filter of a kind with those parts.
func of(kind int, kids ...api.Filter) api.Filter { return api.Filter{Kind: kind, Kids: kids} }

// word answers a truth as a word.
func word(v int) string {
	switch v {
	case truth.False:
		return "false"
	case truth.True:
		return "true"
	case truth.Undefined:
		return "undefined"
	}
	return fmt.Sprint("truth ", v)
}

// Truths in another way: as they rise from no to yes. There all of some are the least of them, one of some the
// greatest, and the other way round is what is as far from the other end.
const (
	no    = 0
	maybe = 1
	yes   = 2
)

// back answers a truth of another way as the program has it.
func back(v int) int { return []int{truth.False, truth.Undefined, truth.True}[v] }

// there answers a truth of the program, or any other number, as it is in another way.
func there(v int) int {
	switch v {
	case truth.False:
		return no
	case truth.True:
		return yes
	}
	return maybe
}

// plain is Of in another way: by calls within calls.
func plain(s api.Schema, f api.Filter, list []api.Attr) int {
	least, most := yes, no
	for _, kid := range f.Kids {
		v := plain(s, kid, list)
		least, most = min(least, v), max(most, v)
	}
	switch {
	case f.Kind == api.And:
		return least
	case f.Kind == api.Or:
		return most
	case f.Kind == api.Not && len(f.Kids) != 1:
		return maybe
	case f.Kind == api.Not:
		return 2 - least
	}
	return plainLeaf(s, f, list)
}

// plainLeaf is what plain tells of a filter without parts.
func plainLeaf(s api.Schema, f api.Filter, list []api.Attr) int {
	syn := 0
	for _, x := range s.Types {
		if small(x.Name) == small(f.Attr) {
			syn = x.Syntax
		}
	}
	so := plainAsk(syn, f)
	if syn == 0 || so == nil {
		return maybe
	}
	for _, a := range list {
		for _, value := range a.Values {
			norm, _ := syntax.Norm(syn, value)
			if small(a.Name) == small(f.Attr) && so(norm) {
				return yes
			}
		}
	}
	return no
}

// plainAsk answers what a filter asks of a normal form; nothing, where it asks nothing.
func plainAsk(syn int, f api.Filter) func(norm string) bool {
	wanted, ok := syntax.Norm(syn, f.Value)
	ordered := ok && strings.Contains("1 2 3 4 8", fmt.Sprint(syn))
	switch {
	case f.Kind == api.Present:
		return func(string) bool { return true }
	case f.Kind == api.Equal && ok, f.Kind == api.Approx && ok:
		return func(norm string) bool { return norm == wanted }
	case f.Kind == api.AtLeast && ordered:
		return func(norm string) bool { return plainOrder(syn, norm, wanted) >= 0 }
	case f.Kind == api.AtMost && ordered:
		return func(norm string) bool { return plainOrder(syn, norm, wanted) <= 0 }
	case f.Kind == api.Pieces && syn >= api.Text && syn <= api.Ascii && plainPieces(f.Pieces):
		return pattern(syn, f.Pieces).MatchString
	}
	return nil
}

// plainOrder holds normal forms against each other: numbers as numbers.
func plainOrder(syn int, a, b string) int {
	m, mOK := new(big.Int).SetString(a, 10)
	n, nOK := new(big.Int).SetString(b, 10)
	if syn == api.Number && mOK && nOK {
		return m.Cmp(n)
	}
	return strings.Compare(a, b)
}

// plainPieces tells whether pieces are such as a filter has.
func plainPieces(list []api.Piece) bool {
	kinds := ""
	for _, p := range list {
		if p.Text == "" || p.Kind < api.Initial || p.Kind > api.Final {
			return false
		}
		kinds += fmt.Sprint(p.Kind)
	}
	return regexp.MustCompile(`^(01*2?|1+2?|2)$`).MatchString(kinds)
}

// pattern answers the pattern of normal forms that have the pieces.
func pattern(syn int, list []api.Piece) *regexp.Regexp {
	out := "(?s)^"
	for _, p := range list {
		text := p.Text
		if syn != api.Exact {
			text = small(text)
		}
		if p.Kind != api.Initial {
			out += ".*"
		}
		out += regexp.QuoteMeta(text)
		if p.Kind == api.Final {
			out += "$"
		}
	}
	return regexp.MustCompile(out)
}

// small is Fold in another way.
func small(text string) string {
	out := []byte(text)
	for i, c := range out {
		if c >= 'A' && c <= 'Z' {
			out[i] = c + 32
		}
	}
	return string(out)
}

// someText answers a text of so many of the letters.
func someText(r *rand.Rand, letters string, length int) string {
	out := make([]byte, length)
	for i := range out {
		out[i] = letters[r.Intn(len(letters))]
	}
	return string(out)
}

// someValue answers a value that the syntax has.
func someValue(r *rand.Rand, syn int) string {
	switch syn {
	case api.Number:
		return fmt.Sprint(r.Intn(40) - 20)
	case api.Truth:
		return []string{"TRUE", "FALSE"}[r.Intn(2)]
	case api.Name:
		return "cn=" + someText(r, "aAb", 1+r.Intn(2)) + []string{"", ",dc=Z"}[r.Intn(2)]
	case api.Time:
		return fmt.Sprintf("%04d1231235959Z", r.Intn(6))
	}
	return someText(r, "aAbB ", 1+r.Intn(4))
}

// someAttrs answers attributes in form: for each type perhaps some values.
func someAttrs(t *testing.T, r *rand.Rand, s api.Schema) []api.Attr {
	t.Helper()
	var list []api.Attr
	for _, typ := range s.Types {
		seen := map[string]bool{}
		for range r.Intn(4) {
			value := someValue(r, typ.Syntax)
			if norm, ok := syntax.Norm(typ.Syntax, value); ok && !seen[norm] {
				seen[norm] = true
				list = append(list, api.Attr{Name: typ.Name, Values: []string{value}})
			}
		}
	}
	made, code := entry.Make(s, list...)
	if code != api.Success {
		t.Fatalf("Make of %v: %d", list, code)
	}
	return made
}

// somePieces answers pieces, mostly such as a filter has.
func somePieces(r *rand.Rand) []api.Piece {
	var list []api.Piece
	for range 1 + r.Intn(3) {
		list = append(list, api.Piece{Kind: api.Any, Text: someText(r, "aAbB ", 1+r.Intn(2))})
	}
	if r.Intn(3) == 0 {
		list[0].Kind = api.Initial
	}
	if last := len(list) - 1; r.Intn(3) == 0 && (last > 0 || list[0].Kind == api.Any) {
		list[last].Kind = api.Final
	}
	if r.Intn(8) == 0 {
		list[r.Intn(len(list))].Kind = r.Intn(5) - 1
	}
	return list
}

// someFilter answers a filter of that depth at most, now and then such as layer 10 hasn't, of types that the schema
// has, mostly.
func someFilter(r *rand.Rand, s api.Schema, depth int) api.Filter {
	if depth > 1 && r.Intn(3) > 0 {
		f := of([]int{api.And, api.Or, api.Not}[r.Intn(3)])
		count := r.Intn(4)
		if f.Kind == api.Not && r.Intn(8) > 0 {
			count = 1
		}
		for range count {
			f.Kids = append(f.Kids, someFilter(r, s, depth-1))
		}
		return f
	}
	typ := s.Types[r.Intn(len(s.Types))]
	f := api.Filter{Kind: []int{api.Equal, api.Pieces, api.AtLeast, api.AtMost, api.Present, api.Approx, api.Pieces}[r.Intn(7)], Attr: typ.Name, Value: someValue(r, typ.Syntax), Pieces: somePieces(r)}
	switch r.Intn(12) {
	case 0:
		f.Attr = "none"
	case 1:
		f.Attr = strings.ToUpper(f.Attr)
	case 2:
		f.Value = "\xff"
	case 3:
		f.Kind = 9 - r.Intn(2)*10
	}
	return f
}
