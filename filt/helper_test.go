package filt_test

import (
	"math/rand"
	"regexp"
	"strconv"
	"strings"
	"testing"

	"castellan/api"
	"castellan/filt"
)

// is: a test fails, if something is another thing than was wanted.
func is[T comparable](t *testing.T, what string, got, want T) {
	t.Helper()
	if got != want {
		t.Errorf("%s: %v, wanted %v", what, got, want)
	}
}

// shape answers all that a filter has as a text, what plays no part too.
func shape(f api.Filter) string {
	var out strings.Builder
	out.WriteString(strconv.Itoa(f.Kind) + strconv.Quote(f.Attr) + strconv.Quote(f.Value) + "<")
	for _, p := range f.Pieces {
		out.WriteString(strconv.Itoa(p.Kind) + strconv.Quote(p.Text))
	}
	out.WriteString(">[")
	for _, kid := range f.Kids {
		out.WriteString(shape(kid))
	}
	return out.String() + "]"
}

// nothing is the shape of a filter that has nothing.
var nothing = shape(api.Filter{})

// These answer filters.
func and(kids ...api.Filter) api.Filter     { return api.Filter{Kind: api.And, Kids: kids} }
func or(kids ...api.Filter) api.Filter      { return api.Filter{Kind: api.Or, Kids: kids} }
func not(kids ...api.Filter) api.Filter     { return api.Filter{Kind: api.Not, Kids: kids} }
func equal(attr, value string) api.Filter   { return leaf(api.Equal, attr, value) }
func present(attr string) api.Filter        { return leaf(api.Present, attr, "") }
func initial(text string) api.Piece         { return api.Piece{Kind: api.Initial, Text: text} }
func anywhere(text string) api.Piece        { return api.Piece{Kind: api.Any, Text: text} }
func final(text string) api.Piece           { return api.Piece{Kind: api.Final, Text: text} }
func leaf(kind int, a, v string) api.Filter { return api.Filter{Kind: kind, Attr: a, Value: v} }
func pieces(list ...api.Piece) api.Filter {
	return api.Filter{Kind: api.Pieces, Attr: "cn", Pieces: list}
}

// list answers a filter so many times.
func list(f api.Filter, n int) []api.Filter {
	var out []api.Filter
	for range n {
		out = append(out, f)
	}
	return out
}

// deep answers f within so many others.
func deep(n int, f api.Filter) api.Filter {
	for range n {
		f = not(f)
	}
	return f
}

// Another way to read: by patterns.
var (
	leafForm   = regexp.MustCompile(`(?s)^\(([A-Za-z][A-Za-z0-9-]{0,31})(=|>=|<=|~=)((?:[^\x00()*\\]|\\[0-9A-Fa-f]{2}|\*)*)\)`)
	piecesForm = regexp.MustCompile(`(?s)^[^*]*(?:\*[^*]+)*\*[^*]*$`)
	byteForm   = regexp.MustCompile(`\\..`)
)

// open is a filter of which the end isn't read yet.
type open struct {
	sign byte
	kids []api.Filter
}

// plain is Parse's words said in another way: the filters that aren't at their ends stand in a list.
func plain(s string) (api.Filter, api.Errno) {
	if len(s) > 4096 {
		return api.Filter{}, api.ErrLong
	}
	stack := []open{{sign: '!'}}
	for at, count := 0, 0; ; {
		top := &stack[len(stack)-1]
		room := top.sign != '!' || len(top.kids) == 0
		switch {
		case len(stack) == 1 && !room && at == len(s):
			return top.kids[0], api.OK
		case at < len(s) && s[at] == '(' && room:
			if count++; len(stack) > 64 {
				return api.Filter{}, api.ErrDeep
			} else if count > 1000 {
				return api.Filter{}, api.ErrMany
			}
			if at+1 < len(s) && strings.Contains("&|!", s[at+1:at+2]) {
				stack = append(stack, open{sign: s[at+1]})
				at += 2
				continue
			}
			found := leafForm.FindStringSubmatch(s[at:])
			f, ok := plainLeaf(found)
			if !ok {
				return api.Filter{}, api.ErrForm
			}
			top.kids = append(top.kids, f)
			at += len(found[0])
		case at < len(s) && s[at] == ')' && len(stack) > 1 && (top.sign != '!' || !room):
			under := &stack[len(stack)-2]
			under.kids = append(under.kids, api.Filter{Kind: strings.IndexByte("&|!", top.sign), Kids: top.kids})
			stack = stack[:len(stack)-1]
			at++
		default:
			return api.Filter{}, api.ErrForm
		}
	}
}

// plainLeaf answers the filter of what leafForm has found.
func plainLeaf(found []string) (api.Filter, bool) {
	if found == nil {
		return api.Filter{}, false
	}
	f := api.Filter{Kind: map[string]int{"=": 3, ">=": 5, "<=": 6, "~=": 8}[found[2]], Attr: found[1]}
	value := found[3]
	if !strings.Contains(value, "*") {
		f.Value = said(value)
		return f, true
	}
	if f.Kind != 3 {
		return f, false
	}
	if value == "*" {
		f.Kind = 7
		return f, true
	}
	f.Kind = 4
	last := strings.LastIndex(value, "*")
	for i, part := range strings.SplitAfter(value, "*") {
		text := said(strings.TrimSuffix(part, "*"))
		kind := 1
		if i == 0 {
			kind = 0
		} else if !strings.HasSuffix(part, "*") {
			kind = 2
		}
		if text != "" {
			f.Pieces = append(f.Pieces, api.Piece{Kind: kind, Text: text})
		}
	}
	return f, last >= 0 && piecesForm.MatchString(value) && !strings.Contains(value, "**")
}

// said answers the bytes that a text says.
func said(text string) string {
	return byteForm.ReplaceAllStringFunc(text, func(written string) string {
		n, _ := strconv.ParseUint(written[1:], 16, 8)
		return string([]byte{byte(n)})
	})
}

// marks write a value.
var marks = strings.NewReplacer("\x00", `\00`, "(", `\28`, ")", `\29`, "*", `\2a`, `\`, `\5c`)

// plainText is Print's words said in another way, of a filter with which nothing is wrong.
func plainText(f api.Filter) string {
	switch f.Kind {
	case api.And, api.Or, api.Not:
		text := "(" + "&|!"[f.Kind:f.Kind+1]
		for _, kid := range f.Kids {
			text += plainText(kid)
		}
		return text + ")"
	case api.Present:
		return "(" + f.Attr + "=*)"
	case api.Pieces:
		ends := [2]string{}
		inner := "*"
		for _, p := range f.Pieces {
			switch p.Kind {
			case api.Any:
				inner += marks.Replace(p.Text) + "*"
			default:
				ends[p.Kind/2] = marks.Replace(p.Text)
			}
		}
		return "(" + f.Attr + "=" + ends[0] + inner + ends[1] + ")"
	}
	return "(" + f.Attr + map[int]string{3: "=", 5: ">=", 6: "<=", 8: "~="}[f.Kind] + marks.Replace(f.Value) + ")"
}

// asPlain: Parse answers of s what plain answers; what it answers can be printed and read again.
func asPlain(t *testing.T, s string) {
	t.Helper()
	want, wantE := plain(s)
	f, e := filt.Parse(s)
	if e != wantE || shape(f) != shape(want) {
		t.Errorf("Parse(%.200q) is %.200s, %v, wanted %.200s, %v", s, shape(f), e, shape(want), wantE)
		return
	}
	if e == api.OK {
		is(t, "Bare of Parse of "+s, shape(filt.Bare(f)), shape(f))
		again(t, f)
	}
}

// again: P10.4 holds of a filter with which nothing is wrong, and its text is as said in another way.
func again(t *testing.T, f api.Filter) {
	t.Helper()
	is(t, "Check of "+shape(f), filt.Check(f), api.OK)
	text, e := filt.Print(f)
	want := plainText(f)
	if len(want) > 4096 {
		is(t, "Print's error of a long one", e, api.ErrLong)
		is(t, "Print of a long one", text, "")
		return
	}
	is(t, "Print's error of "+shape(f), e, api.OK)
	is(t, "Print of "+shape(f), text, want)
	back, e := filt.Parse(text)
	is(t, "Parse's error of "+text, e, api.OK)
	is(t, "Parse of "+text, shape(back), shape(filt.Bare(f)))
}

// words calls with every text of the letters up to a length.
func words(letters string, most int, with func(string)) {
	with("")
	if most == 0 {
		return
	}
	for i := range len(letters) {
		words(letters, most-1, func(rest string) { with(letters[i:i+1] + rest) })
	}
}

// someText answers a text of so many of the letters.
func someText(r *rand.Rand, letters string, length int) string {
	out := make([]byte, length)
	for i := range out {
		out[i] = letters[r.Intn(len(letters))]
	}
	return string(out)
}

// someFilter answers a filter of at most that depth with which nothing is wrong; with what plays no part, or without.
func someFilter(r *rand.Rand, depth int, more bool) api.Filter {
	f := api.Filter{Kind: r.Intn(9)}
	if depth == 1 {
		f.Kind = 3 + r.Intn(6)
	}
	inner := r.Intn(4)
	if f.Kind == api.Not {
		inner = 1
	}
	if f.Kind <= api.Not {
		for range inner {
			f.Kids = append(f.Kids, someFilter(r, depth-1, more))
		}
	} else {
		f.Attr = []string{"a", "cn", "B-1", strings.Repeat("x", 32)}[r.Intn(4)]
	}
	if f.Kind == api.Equal || f.Kind == api.AtLeast || f.Kind == api.AtMost || f.Kind == api.Approx {
		f.Value = someBytes(r, r.Intn(5))
	}
	if f.Kind == api.Pieces {
		f.Pieces = somePieces(r)
	}
	if more {
		litter(r, &f)
	}
	return f
}

// someBytes answers so many bytes, many of which are written otherwise.
func someBytes(r *rand.Rand, length int) string {
	return someText(r, "ab \x00()*\\=\xff\xc3\n#,", length)
}

// somePieces answers pieces such as a filter has.
func somePieces(r *rand.Rand) []api.Piece {
	var list []api.Piece
	if r.Intn(2) == 0 {
		list = append(list, initial(someBytes(r, 1+r.Intn(3))))
	}
	for range r.Intn(3) {
		list = append(list, anywhere(someBytes(r, 1+r.Intn(3))))
	}
	if r.Intn(2) == 0 || len(list) == 0 {
		list = append(list, final(someBytes(r, 1+r.Intn(3))))
	}
	return list
}

// litter puts into a filter what plays no part in its kind.
func litter(r *rand.Rand, f *api.Filter) {
	if f.Kind <= api.Not {
		f.Attr = []string{"", "cn", "not a type"}[r.Intn(3)]
	} else {
		f.Kids = []api.Filter{{Kind: r.Intn(20) - 5, Attr: "?"}}
	}
	if f.Kind != api.Pieces {
		f.Pieces = []api.Piece{{Kind: r.Intn(5)}}
	}
	if f.Kind <= api.Not || f.Kind == api.Pieces || f.Kind == api.Present {
		f.Value = someBytes(r, 3)
	}
}
