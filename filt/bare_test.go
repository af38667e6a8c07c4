package filt_test

import (
	"math/rand"
	"testing"

	"castellan/api"
	"castellan/filt"
)

// full answers a filter of a kind that has all there is.
func full(kind int) api.Filter {
	return api.Filter{Kind: kind, Attr: "a", Value: "v", Pieces: []api.Piece{anywhere("p"), {Kind: 7}}, Kids: []api.Filter{equal("b", "w"), {Kind: 9, Attr: "c"}}}
}

// P10.3: what each kind has, and no more.
func TestBare(t *testing.T) {
	kids := []api.Filter{equal("b", "w"), {Kind: 9}}
	for _, c := range []struct{ f, want api.Filter }{
		{api.Filter{}, api.Filter{}},
		{full(api.And), and(kids...)},
		{full(api.Or), or(kids...)},
		{full(api.Not), not(kids...)},
		{full(api.Equal), equal("a", "v")},
		{full(api.AtLeast), leaf(api.AtLeast, "a", "v")},
		{full(api.AtMost), leaf(api.AtMost, "a", "v")},
		{full(api.Approx), leaf(api.Approx, "a", "v")},
		{full(api.Present), present("a")},
		{full(api.Pieces), api.Filter{Kind: api.Pieces, Attr: "a", Pieces: []api.Piece{anywhere("p"), {Kind: 7}}}},
		{full(-1), api.Filter{Kind: -1}},
		{full(9), api.Filter{Kind: 9}},
		{full(1 << 40), api.Filter{Kind: 1 << 40}},
		{equal("1", "v"), equal("1", "v")},
		{pieces(), pieces()},
		{not(), not()},
		{and(full(api.Not), not(full(api.Present), full(12))), and(not(kids...), not(present("a"), api.Filter{Kind: 12}))},
		{deep(100, full(api.Equal)), deep(100, equal("a", "v"))},
	} {
		before := shape(c.f)
		is(t, "Bare", shape(filt.Bare(c.f)), shape(c.want))
		is(t, "what was handed in", shape(c.f), before)
	}
}

// P10.3, P10.4: Bare of Bare is Bare, and nothing that plays a part is lost.
func TestBareSome(t *testing.T) {
	r := rand.New(rand.NewSource(30))
	for range 5000 {
		f := someFilter(r, 1+r.Intn(5), true)
		bare := filt.Bare(f)
		is(t, "Bare of Bare", shape(filt.Bare(bare)), shape(bare))
		text, _ := filt.Print(f)
		bareText, _ := filt.Print(bare)
		is(t, "its text", bareText, text)
	}
}

// P10.3, memory: the answer shares none with what was handed in, nor two lists of it with each other.
func TestBareMemory(t *testing.T) {
	shared := []api.Piece{initial("i"), final("f")}
	twice := []api.Filter{{Kind: api.Pieces, Attr: "a", Pieces: shared}, {Kind: api.Pieces, Attr: "b", Pieces: shared}}
	f := and(or(twice...), or(twice...))
	bare := filt.Bare(f)
	want := shape(bare)
	spoil(&bare)
	is(t, "behind spare room", shape(bare), want)
	shared[0].Text, twice[0].Attr = "changed", "changed"
	is(t, "behind changes of what was handed in", shape(bare), want)
	before := shape(f)
	bare.Kids[0].Kids[0].Pieces[0].Text = "other"
	bare.Kids[0].Kids[1].Attr = "other"
	is(t, "the other list", shape(bare.Kids[1]), shape(or(
		api.Filter{Kind: api.Pieces, Attr: "a", Pieces: []api.Piece{initial("i"), final("f")}},
		api.Filter{Kind: api.Pieces, Attr: "b", Pieces: []api.Piece{initial("i"), final("f")}})))
	is(t, "the other pieces", bare.Kids[0].Kids[1].Pieces[0].Text, "i")
	is(t, "what was handed in", shape(f), before)
}

// P1: Bare and Check of filters deeper than calls within calls can follow, and of one that stands beneath itself.
func TestEnds(t *testing.T) {
	f := deep(1000000, full(api.Equal))
	bare := filt.Bare(f)
	depth := 0
	for bare.Kind == api.Not && len(bare.Kids) == 1 {
		bare = bare.Kids[0]
		depth++
	}
	is(t, "how deep Bare is", depth, 1000000)
	is(t, "beneath all", shape(bare), shape(equal("a", "v")))
	is(t, "Check of a deep one", filt.Check(f), api.ErrDeep)
	round := or(full(api.Equal), and())
	round.Kids[1] = round
	is(t, "Check of a round one", filt.Check(round), api.ErrDeep)
	bare = filt.Bare(round)
	for range 5 {
		is(t, "the Kids of a round one", len(bare.Kids), 2)
		is(t, "the first one", shape(bare.Kids[0]), shape(equal("a", "v")))
		bare = bare.Kids[1]
	}
	wide := or(list(and(), 3)...)
	for i := range wide.Kids {
		wide.Kids[i] = wide
	}
	_, e := filt.Print(wide)
	is(t, "Print of a round one", e, api.ErrDeep)
	is(t, "Bare of a wide round one", len(filt.Bare(wide).Kids), 3)
}
