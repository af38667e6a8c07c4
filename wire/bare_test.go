package wire_test

import (
	"math"
	"math/rand"
	"strings"
	"testing"

	"castellan/api"
	"castellan/filt"
	"castellan/wire"
)

// P11.3: what each operation has, and no more.
func TestBare(t *testing.T) {
	full := sample(0)
	controls := full.Controls
	for _, want := range []api.Msg{
		{Op: api.BindReq, Version: 3, DN: "dc=z", Sasl: true, Mech: "M", Has: true, Value: "value"},
		{Op: api.UnbindReq},
		{Op: api.SearchReq, DN: "dc=z", Scope: 2, Deref: 3, Size: 1000, Time: 200, TypesOnly: true, Filter: full.Filter, Names: full.Names},
		{Op: api.SearchEntry, DN: "dc=z", Attrs: full.Attrs},
		{Op: api.ModifyReq, DN: "dc=z", Mods: full.Mods},
		{Op: api.AddReq, DN: "dc=z", Attrs: full.Attrs},
		{Op: api.DeleteReq, DN: "dc=z"},
		{Op: api.MoveReq, DN: "dc=z", Rdn: "cn=r", DeleteOld: true, HasSup: true, Sup: "dc=s"},
		{Op: api.CompareReq, DN: "dc=z", Attr: "attr", Text: "text"},
		{Op: api.AbandonReq, Target: 5},
		{Op: api.ExtendedReq, OID: "1.2", Has: true, Value: "value"},
		{Op: api.ExtendedRes, Code: 68, Matched: "dc=m", Text: "text", OID: "1.2", Has: true, Value: "value"},
		{Op: api.BindRes, Code: 68, Matched: "dc=m", Text: "text"},
		{Op: api.SearchDone, Code: 68, Matched: "dc=m", Text: "text"},
		{Op: api.ModifyRes, Code: 68, Matched: "dc=m", Text: "text"},
		{Op: api.AddRes, Code: 68, Matched: "dc=m", Text: "text"},
		{Op: api.DeleteRes, Code: 68, Matched: "dc=m", Text: "text"},
		{Op: api.MoveRes, Code: 68, Matched: "dc=m", Text: "text"},
		{Op: api.CompareRes, Code: 68, Matched: "dc=m", Text: "text"},
		{Op: 17}, {Op: -1}, {Op: 25}, {Op: math.MaxInt}, {Op: math.MinInt}, {Op: 1 << 32},
	} {
		want.ID, want.Controls = 300, controls
		m := sample(want.Op)
		is(t, "Bare", said(wire.Bare(m)), said(want))
		is(t, "Bare of it", said(wire.Bare(want)), said(want))
		is(t, "what was handed in", said(m), said(sample(want.Op)))
	}
	is(t, "Bare of nothing", said(wire.Bare(api.Msg{})), nobody)
}

// P11.3: what plays no part where another field says so.
func TestBareOfWhatLacks(t *testing.T) {
	for _, c := range []struct{ m, want api.Msg }{
		{api.Msg{Op: api.BindReq, Text: "p", Mech: "M", Has: true, Value: "v"}, api.Msg{Op: api.BindReq, Text: "p"}},
		{api.Msg{Op: api.BindReq, Sasl: true, Text: "p", Mech: "M", Has: true, Value: "v"}, api.Msg{Op: api.BindReq, Sasl: true, Mech: "M", Has: true, Value: "v"}},
		{api.Msg{Op: api.BindReq, Sasl: true, Mech: "M", Value: "v"}, api.Msg{Op: api.BindReq, Sasl: true, Mech: "M"}},
		{api.Msg{Op: api.BindReq, Sasl: true, Has: true}, api.Msg{Op: api.BindReq, Sasl: true, Has: true}},
		{api.Msg{Op: api.MoveReq, Sup: "s"}, api.Msg{Op: api.MoveReq}},
		{api.Msg{Op: api.MoveReq, HasSup: true}, api.Msg{Op: api.MoveReq, HasSup: true}},
		{api.Msg{Op: api.ExtendedReq, Value: "v"}, api.Msg{Op: api.ExtendedReq}},
		{api.Msg{Op: api.ExtendedReq, Has: true}, api.Msg{Op: api.ExtendedReq, Has: true}},
		{api.Msg{Op: api.ExtendedRes, OID: "1", Value: "v"}, api.Msg{Op: api.ExtendedRes, OID: "1"}},
		{api.Msg{Op: api.ExtendedRes, Has: true, Value: "v"}, api.Msg{Op: api.ExtendedRes, Has: true, Value: "v"}},
		{api.Msg{Op: api.UnbindReq, Controls: []api.Control{{OID: "1", Value: "v"}, {Has: true}, {Critical: true, Value: "v"}, {}}},
			api.Msg{Op: api.UnbindReq, Controls: []api.Control{{OID: "1"}, {Has: true}, {Critical: true}, {}}}},
		{api.Msg{Op: 99, Controls: []api.Control{{Value: "v"}}}, api.Msg{Op: 99, Controls: []api.Control{{}}}},
		{api.Msg{ID: -5, Op: api.BindReq, Version: -7}, api.Msg{ID: -5, Op: api.BindReq, Version: -7}}, // whether it can be written plays no part
		{api.Msg{Op: api.AddReq, Attrs: []api.Attr{{Name: "a"}}}, api.Msg{Op: api.AddReq, Attrs: []api.Attr{{Name: "a"}}}},
		{api.Msg{Op: api.ModifyReq, Mods: []api.Mod{{Op: 77}}}, api.Msg{Op: api.ModifyReq, Mods: []api.Mod{{Op: 77}}}},
		{api.Msg{Op: api.SearchReq, Scope: 9, Size: -1}, api.Msg{Op: api.SearchReq, Scope: 9, Size: -1}},
		{api.Msg{Op: api.AddRes, Code: math.MinInt}, api.Msg{Op: api.AddRes, Code: math.MinInt}},
		{api.Msg{Op: api.AbandonReq, Target: -9}, api.Msg{Op: api.AbandonReq, Target: -9}},
	} {
		is(t, "Bare of "+said(c.m), said(wire.Bare(c.m)), said(c.want))
	}
}

// P11.3: a filter is Bare as layer 10 has it.
func TestBareFilter(t *testing.T) {
	litter := func(kind int) api.Filter {
		return api.Filter{Kind: kind, Attr: "a", Value: "v", Pieces: []api.Piece{{Kind: 7}}, Kids: []api.Filter{{Kind: api.Present, Attr: "b", Value: "w"}, {Kind: 99, Attr: "c"}}}
	}
	for kind := -1; kind < 11; kind++ {
		for _, f := range []api.Filter{litter(kind), and(litter(kind), not(litter(kind)))} {
			is(t, "its filter", said(wire.Bare(search(f)).Filter), said(filt.Bare(f)))
		}
	}
	is(t, "of Present", said(wire.Bare(search(litter(api.Present))).Filter), said(present("a")))
	is(t, "of none", said(wire.Bare(search(litter(9))).Filter), said(api.Filter{Kind: 9}))
}

// P11.3: of many messages, and that Bare of Bare is Bare.
func TestBareSome(t *testing.T) {
	r := rand.New(rand.NewSource(31))
	for i := range 5000 {
		m := someMsg(r, ops[i%len(ops)])
		bare := wire.Bare(m)
		is(t, "Bare of Bare", said(wire.Bare(bare)), said(bare))
		m.Filter = bare.Filter
		for i := range m.Controls {
			if !m.Controls[i].Has {
				m.Controls[i].Value = ""
			}
		}
		is(t, "Bare", said(bare), said(clone(m)))
	}
}

// spoil changes all lists of a message, spare room included.
func spoil(m *api.Msg) {
	grow(&m.Names, "spoilt")
	for i := range m.Attrs {
		grow(&m.Attrs[i].Values, "spoilt")
	}
	for i := range m.Mods {
		grow(&m.Mods[i].Values, "spoilt")
	}
	for i := range m.Filter.Kids {
		grow(&m.Filter.Kids[i].Pieces, api.Piece{Kind: 8})
		grow(&m.Filter.Kids[i].Kids, present("spoilt"))
	}
	grow(&m.Attrs, api.Attr{Name: "spoilt"})
	grow(&m.Mods, api.Mod{Name: "spoilt"})
	grow(&m.Controls, api.Control{OID: "spoilt"})
	grow(&m.Filter.Kids, present("spoilt"))
}

// grow puts a thing into all that a list has, its spare room too.
func grow[T any](list *[]T, thing T) {
	whole := (*list)[:cap(*list)]
	for i := range whole {
		whole[i] = thing
	}
}

// P11.3, memory: the answer shares none with what was handed in, nor two lists of it with each other.
func TestBareMemory(t *testing.T) {
	for _, op := range ops {
		m := sample(op)
		bare := wire.Bare(m)
		spoil(&bare)
		is(t, "what was handed in", said(m), said(sample(op)))
		bare = wire.Bare(m)
		want := said(bare)
		spoil(&m)
		is(t, "the answer", said(bare), want)
	}
	shared := make([]string, 2, 9)
	m := wire.Bare(api.Msg{Op: api.SearchEntry, Attrs: []api.Attr{{Values: shared}, {Values: shared[:1]}, {Values: shared}}})
	grow(&m.Attrs[0].Values, "x")
	is(t, "the second list", m.Attrs[1].Values[0], "")
	is(t, "the third list", m.Attrs[2].Values[0], "")
	mods := wire.Bare(api.Msg{Op: api.ModifyReq, Mods: []api.Mod{{Values: shared}, {Values: shared}}})
	grow(&mods.Mods[0].Values, "x")
	is(t, "the second modification", mods.Mods[1].Values[1], "")
}

// P11.3: results.
func TestResult(t *testing.T) {
	for _, op := range append([]int{api.ExtendedRes}, results...) {
		is(t, "without a text", said(wire.Result(3, op, 68)), said(api.Msg{ID: 3, Op: op, Code: 68}))
		is(t, "with a text", said(wire.Result(3, op, 0, "a")), said(api.Msg{ID: 3, Op: op, Text: "a"}))
		m := wire.Result(2147483647, op, 80, "a ", "", "\x00b", "a ")
		is(t, "with texts", said(m), said(api.Msg{ID: 2147483647, Op: op, Code: 80, Text: "a \x00ba "}))
		writes(t, m, msg(2147483647, el(opTags[op], enum(80), str(""), str("a \x00ba "))))
	}
	for _, n := range []int{-1, 17, 99, math.MinInt, math.MaxInt} {
		is(t, "any numbers", said(wire.Result(n, n, n, "x", "y")), said(api.Msg{ID: n, Op: n, Code: n, Text: "xy"}))
	}
	is(t, "empty texts", said(wire.Result(0, 1, 0, "", "")), said(api.Msg{Op: 1}))
	words := strings.Split(strings.Repeat("word,", 10000), ",")
	kept := strings.Join(words, ",")
	is(t, "many words", wire.Result(1, 1, 1, words...).Text, strings.Repeat("word", 10000))
	is(t, "the words handed in", strings.Join(words, ","), kept)
}
