package syntax_test

import (
	"fmt"
	"math/rand"
	"strings"
	"testing"

	"castellan/api"
	"castellan/syntax"
)

// like is what Like answers as one word.
func like(syn int, v string, pieces ...api.Piece) string {
	yes, ok := syntax.Like(syn, v, pieces...)
	switch {
	case yes && ok:
		return "yes"
	case ok:
		return "no"
	case yes:
		return "yes beside false"
	}
	return "none"
}

// asked answers the pieces that a text as of a filter asks for: *b*c, a*, a*b*c ..
func asked(text string) []api.Piece {
	parts := strings.Split(text, "*")
	var out []api.Piece
	for i, part := range parts {
		kind := api.Any
		if i == 0 {
			kind = api.Initial
		} else if i == len(parts)-1 {
			kind = api.Final
		}
		if part != "" {
			out = append(out, api.Piece{Kind: kind, Text: part})
		}
	}
	return out
}

// P12.3: Like of pieces of all sorts.
func TestLike(t *testing.T) {
	for _, c := range []struct {
		syn           int
		v, text, want string
	}{
		{api.Text, "Abcab", "A*B", "yes"},
		{api.Text, "Abcab", "A*", "yes"},
		{api.Text, "Abcab", "b*", "no"},
		{api.Text, "Abcab", "*b", "yes"},
		{api.Text, "Abcab", "*a", "no"},
		{api.Text, "Abcab", "*BC*", "yes"},
		{api.Text, "Abcab", "*cb*", "no"},
		{api.Text, "Abcab", "*ab*ab*", "yes"},
		{api.Text, "Abcab", "ab*ab", "yes"},
		{api.Text, "Abcab", "abc*cab", "no"},
		{api.Text, "Abcab", "abcab*", "yes"},
		{api.Text, "Abcab", "*abcab", "yes"},
		{api.Text, "Abcab", "abcab*abcab", "no"},
		{api.Text, "Abcab", "abcabc*", "no"},
		{api.Text, "Abcab", "*xabcab", "no"},
		{api.Text, "Abcab", "*c*b*", "yes"},
		{api.Text, "Abcab", "*b*c*", "yes"},
		{api.Text, "Abcab", "*c*c*", "no"},
		{api.Text, "ab", "*ab*b*", "no"},
		{api.Text, "ab", "*a*b*", "yes"},
		{api.Text, "ab", "*b*a*", "no"},
		{api.Text, "ab", "a*ab", "no"},
		{api.Text, "aba", "ab*ba", "no"},
		{api.Text, "aba", "*ab*ba*", "no"},
		{api.Text, "abba", "ab*ba", "yes"},
		{api.Text, "aXbXa", "a*x*x*a", "yes"},
		{api.Text, "aXbXa", "a*x*b*a*x*", "no"},
		{api.Text, "aabab", "*ab*ab", "yes"},
		{api.Text, "abab", "*ab*bab", "no"},
		{api.Text, "aaa", "a*a*a", "yes"},
		{api.Text, "aa", "a*a*a", "no"},
		{api.Text, "aab", "*ab*", "yes"},
		{api.Text, " A  b ", "a b*", "yes"},
		{api.Text, " A  b ", "*a b", "yes"},
		{api.Text, " A  b ", " *", "no"},
		{api.Text, " A  b ", "* ", "no"},
		{api.Text, " A  b ", "*  *", "no"},
		{api.Text, " A  b ", "* *", "yes"},
		{api.Text, " A  b ", "A  b*", "no"},
		{api.Text, "  ", "* *", "no"},
		{api.Text, "Éa", "É*A", "yes"},
		{api.Text, "Éa", "é*", "no"},
		{api.Text, "Éa", "\xc3*", "yes"},
		{api.Text, "Éa", "*\x89a", "yes"},
		{api.Text, "", "a*", "none"},
		{api.Text, "\xff", "a*", "none"},
		{api.Exact, "Abcab", "A*b", "yes"},
		{api.Exact, "Abcab", "a*b", "no"},
		{api.Exact, "Abcab", "A*B", "no"},
		{api.Exact, " A  b ", " *  * ", "yes"},
		{api.Exact, " A  b ", "* b", "no"},
		{api.Exact, "", "a*", "none"},
		{api.Exact, "\xff", "a*", "none"},
		{api.Ascii, "Abcab", "A*B", "yes"},
		{api.Ascii, "Abcab", "*é*", "no"},
		{api.Ascii, "", "a*", "no"},
		{api.Ascii, "é", "*a", "none"},
		{api.Number, "121", "1*1", "none"},
		{api.Truth, "TRUE", "T*", "none"},
		{api.Name, "cn=a", "cn*", "none"},
		{api.Octets, "abc", "a*", "none"},
		{api.Time, "20240229235959Z", "2024*", "none"},
		{0, "abc", "a*", "none"},
		{9, "abc", "a*", "none"},
	} {
		is(t, fmt.Sprintf("Like(%d, %q, %q)", c.syn, c.v, c.text), like(c.syn, c.v, asked(c.text)...), c.want)
	}
}

// P12.3: of pieces that are none of a filter nothing is said, and of values that are too long.
func TestLikeNone(t *testing.T) {
	initial, between, final := api.Piece{Kind: api.Initial, Text: "a"}, api.Piece{Kind: api.Any, Text: "a"}, api.Piece{Kind: api.Final, Text: "a"}
	for _, syn := range []int{api.Text, api.Exact, api.Ascii} {
		for _, pieces := range [][]api.Piece{
			nil, {}, {initial, initial}, {between, initial}, {final, between}, {final, final}, {final, initial}, {initial, between, initial}, {initial, final, final},
			{{Kind: api.Any}}, {{Kind: api.Initial}, between}, {initial, {Kind: api.Final}}, {initial, {Kind: api.Any}, final}, {{Kind: 3, Text: "a"}}, {{Kind: -1, Text: "a"}}, {initial, {Kind: 3, Text: "x"}},
			{{Kind: api.Initial, Text: "x"}, {Kind: api.Any}},
		} {
			is(t, fmt.Sprint(pieces), like(syn, "aaaaa", pieces...), "none")
		}
		for _, pieces := range [][]api.Piece{{initial}, {between}, {final}, {initial, final}, {initial, between}, {between, final}, {between, between}, {initial, between, between, final}} {
			is(t, fmt.Sprint(pieces), like(syn, "aaaaa", pieces...), "yes")
			is(t, fmt.Sprint(pieces), like(syn, "bbbbb", pieces...), "no")
		}
		is(t, "4096 bytes", like(syn, strings.Repeat("a", 4096), initial, final), "yes")
		is(t, "4097 bytes", like(syn, strings.Repeat("a", 4097), initial, final), "none")
		is(t, "a piece as long as the value", like(syn, strings.Repeat("a", 4096), api.Piece{Kind: api.Any, Text: strings.Repeat("a", 4096)}), "yes")
		is(t, "a longer piece", like(syn, strings.Repeat("a", 4096), api.Piece{Kind: api.Any, Text: strings.Repeat("a", 4097)}), "no")
		is(t, "a piece for each byte", like(syn, strings.Repeat("a", 4096), asked(strings.Repeat("*a", 4096)+"*")...), "yes")
		is(t, "a piece too many", like(syn, strings.Repeat("a", 4096), asked(strings.Repeat("*a", 4097)+"*")...), "no")
		is(t, "a great many pieces", like(syn, "aaaa", asked(strings.Repeat("*a", 100000)+"*")...), "no")
	}
}

// plainLike is Like's words said in another way: every place is tried for each piece.
func plainLike(norm string, from int, pieces []api.Piece) bool {
	if len(pieces) == 0 {
		return true
	}
	p := pieces[0]
	for at := from; at+len(p.Text) <= len(norm); at++ {
		stands := norm[at:at+len(p.Text)] == p.Text
		if p.Kind == api.Initial && at > 0 || p.Kind == api.Final && at+len(p.Text) < len(norm) {
			stands = false
		}
		if stands && plainLike(norm, at+len(p.Text), pieces[1:]) {
			return true
		}
	}
	return false
}

// P12.3: Like of texts and pieces by chance, of few letters that they meet often, held against trying every place.
func TestLikeSome(t *testing.T) {
	r := rand.New(rand.NewSource(12))
	count := map[string]int{}
	for range 40000 {
		syn := 1 + r.Intn(3)
		v := someText(r, []string{"ab", "aAb ", "a"}[r.Intn(3)], 1+r.Intn(9))
		text := someText(r, []string{"ab", "ab*", "aB *"}[r.Intn(3)], r.Intn(2))
		for range 1 + r.Intn(3) {
			text += "*" + someText(r, []string{"ab", "aAb ", "a"}[r.Intn(3)], r.Intn(4))
		}
		pieces := asked(text)
		if len(pieces) == 0 {
			is(t, text, like(syn, v, pieces...), "none")
			continue
		}
		small := append([]api.Piece{}, pieces...)
		for i := range small {
			if syn != api.Exact {
				small[i].Text = smaller(small[i].Text)
			}
		}
		norm, _ := plain(syn, v)
		want := map[bool]string{true: "yes", false: "no"}[plainLike(norm, 0, small)]
		is(t, fmt.Sprintf("Like(%d, %q, %q)", syn, v, text), like(syn, v, pieces...), want)
		count[want]++
	}
	if count["yes"] < 1000 || count["no"] < 1000 {
		t.Errorf("the tries are too much alike: %v", count)
	}
}

// Memory: pieces that are handed in stay as they are, their spare room too.
func TestLikeMemory(t *testing.T) {
	room := []api.Piece{{Kind: api.Initial, Text: "A"}, {Kind: api.Any, Text: "B"}, {Kind: 7, Text: "spare"}}
	is(t, "with spare room", like(api.Text, "ab", room[:2]...), "yes")
	is(t, "again", like(api.Text, "ab", room[:2]...), "yes")
	is(t, "the first", room[0], api.Piece{Kind: api.Initial, Text: "A"})
	is(t, "the second", room[1], api.Piece{Kind: api.Any, Text: "B"})
	is(t, "the spare one", room[2], api.Piece{Kind: 7, Text: "spare"})
}
