package wire_test

import (
	"math"
	"math/rand"
	"runtime"
	"slices"
	"strings"
	"testing"

	"castellan/api"
	"castellan/wire"
)

// writes: Write answers these bytes.
func writes(t *testing.T, m api.Msg, want string) {
	t.Helper()
	if s, e := wire.Write(m); s != want || e != api.OK {
		t.Errorf("Write of %.500s is %.300x, %v, wanted %.300x", said(m), s, e, want)
	}
}

// fails: Write answers no more than this error.
func fails(t *testing.T, what string, m api.Msg, want api.Errno) {
	t.Helper()
	if s, e := wire.Write(m); s != "" || e != want {
		t.Errorf("%s: Write is %d bytes, %v, wanted %v", what, len(s), e, want)
	}
}

// P11.2: an ID is from 0 to 2147483647, and that comes first.
func TestWriteID(t *testing.T) {
	for _, id := range []int{0, 1, 127, 128, 255, 256, 32767, 32768, 2147483646, 2147483647} {
		writes(t, api.Msg{ID: id, Op: api.UnbindReq}, msg(id, "\x42\x00"))
	}
	for _, id := range []int{-1, 2147483648, math.MinInt, math.MaxInt, -2147483648, 1 << 32, 1<<32 + 1} {
		fails(t, "no ID", api.Msg{ID: id, Op: api.UnbindReq}, api.ErrValue)
		fails(t, "no ID, ahead of no Op", api.Msg{ID: id, Op: 17}, api.ErrValue)
		fails(t, "no ID, ahead of no Version", api.Msg{ID: id, Op: api.BindReq}, api.ErrValue)
	}
}

// P11.2: an Op is one of the table.
func TestWriteOp(t *testing.T) {
	count := 0
	for op := -300; op < 300; op++ {
		m := api.Msg{ID: 1, Op: op, Version: 1, Filter: present("a")}
		if slices.Contains(ops, op) {
			s, e := wire.Write(m)
			is(t, "an Op", e, api.OK)
			is(t, "its tag", s[5], opTags[op])
			count++
			continue
		}
		fails(t, "no Op", m, api.ErrOp)
	}
	is(t, "operations", count, 19)
	for _, op := range []int{math.MinInt, math.MaxInt, 1 << 32, 32, 0x42, 0x60} {
		fails(t, "no Op", api.Msg{Op: op}, api.ErrOp)
	}
	long := strings.Repeat("a", api.MaxPdu+1)
	fails(t, "no Op, ahead of all else", api.Msg{Op: 17, DN: long, Code: -1, Filter: not()}, api.ErrOp)
}

// bounds are the numbers that operations have.
var bounds = []struct {
	op, low, high int
	put           func(m *api.Msg, n int)
}{
	{api.BindReq, 1, 127, func(m *api.Msg, n int) { m.Version = n }},
	{api.SearchReq, 0, 2, func(m *api.Msg, n int) { m.Scope = n }},
	{api.SearchReq, 0, 3, func(m *api.Msg, n int) { m.Deref = n }},
	{api.SearchReq, 0, 2147483647, func(m *api.Msg, n int) { m.Size = n }},
	{api.SearchReq, 0, 2147483647, func(m *api.Msg, n int) { m.Time = n }},
	{api.ModifyReq, 0, 2, func(m *api.Msg, n int) { m.Mods[0].Op = n }},
	{api.ModifyReq, 0, 2, func(m *api.Msg, n int) { m.Mods[2].Op = n }},
	{api.AbandonReq, 0, 2147483647, func(m *api.Msg, n int) { m.Target = n }},
	{api.BindRes, 0, 2147483647, func(m *api.Msg, n int) { m.Code = n }},
	{api.SearchDone, 0, 2147483647, func(m *api.Msg, n int) { m.Code = n }},
	{api.ModifyRes, 0, 2147483647, func(m *api.Msg, n int) { m.Code = n }},
	{api.AddRes, 0, 2147483647, func(m *api.Msg, n int) { m.Code = n }},
	{api.DeleteRes, 0, 2147483647, func(m *api.Msg, n int) { m.Code = n }},
	{api.MoveRes, 0, 2147483647, func(m *api.Msg, n int) { m.Code = n }},
	{api.CompareRes, 0, 2147483647, func(m *api.Msg, n int) { m.Code = n }},
	{api.ExtendedRes, 0, 2147483647, func(m *api.Msg, n int) { m.Code = n }},
}

// P11.2: numbers' bounds, and that numbers that an operation doesn't have play no part.
func TestWriteBounds(t *testing.T) {
	for _, b := range bounds {
		for _, n := range []int{b.low, b.low + 1, b.high - 1, b.high} {
			m := sample(b.op)
			m.Mods = append(m.Mods, api.Mod{})
			b.put(&m, n)
			writes(t, m, plain(m))
		}
		for _, n := range []int{b.low - 1, b.high + 1, -1, -128, math.MinInt, math.MaxInt, 1<<32 + b.low, 1<<40 + b.high} {
			for _, op := range ops {
				m := sample(op)
				m.Mods = append(m.Mods, api.Mod{})
				want := plain(m)
				b.put(&m, n)
				if has := op == b.op || slices.Contains(bounds2(b.op), op); has {
					fails(t, "a number out of bounds", m, api.ErrForm)
				} else {
					writes(t, m, want)
				}
			}
		}
	}
}

// bounds2 answers the operations that have the same number as a result.
func bounds2(op int) []int {
	if op == api.ExtendedRes || slices.Contains(results, op) {
		return append([]int{api.ExtendedRes}, results...)
	}
	return nil
}

// P11.2: filters that are none.
func TestWriteBadFilters(t *testing.T) {
	bad := []api.Filter{
		{Kind: -1}, {Kind: 9}, {Kind: math.MinInt}, {Kind: math.MaxInt}, {Kind: 32}, {Kind: 0xa0}, {Kind: 1 << 32}, not(), not(and(), and()), pieces(), {Kind: api.Pieces},
	}
	for _, kind := range []int{-1, 3, 4, 1 << 32, math.MinInt, math.MaxInt, 0x80} {
		bad = append(bad, pieces(api.Piece{Kind: kind, Text: "a"}))
	}
	a := func(kind int) api.Piece { return api.Piece{Kind: kind, Text: "a"} }
	for kind := range 3 {
		bad = append(bad, pieces(api.Piece{Kind: kind}), pieces(a(0), api.Piece{Kind: kind}), pieces(api.Piece{Kind: kind}, a(2)), pieces(a(kind), a(0)), pieces(a(2), a(kind)), pieces(a(0), a(1), a(kind), a(3)), pieces(a(1), a(0), a(kind)))
	}
	for i, f := range bad {
		for _, f := range []api.Filter{f, and(present("a"), f), nots(5, f), or(or(f), present("b")), nots(200, f)} {
			fails(t, said(bad[i]), search(f), api.ErrForm)
		}
		for _, op := range ops {
			if m := sample(op); op != api.SearchReq {
				m.Filter = f
				writes(t, m, plain(m))
			}
		}
	}
}

// P11.2: as many filters as may be; of what plays no part none count.
func TestWriteManyFilters(t *testing.T) {
	m := search(and(slices.Repeat([]api.Filter{present("cn")}, 999)...))
	writes(t, m, plain(m))
	fails(t, "one too many", search(and(slices.Repeat([]api.Filter{present("cn")}, 1000)...)), api.ErrForm)
	half := or(slices.Repeat([]api.Filter{not(leaf(api.Equal, "a", "b"))}, 250)...) // 501
	m = search(and(half, or(slices.Repeat([]api.Filter{and()}, 497)...)))
	writes(t, m, plain(m))
	fails(t, "one too many within", search(and(half, or(slices.Repeat([]api.Filter{and()}, 498)...))), api.ErrForm)
	fails(t, "one too many, behind", search(and(half, or(slices.Repeat([]api.Filter{and()}, 497)...), present("a"))), api.ErrForm)
	many := slices.Repeat([]api.Filter{{Kind: 77}}, 2000)
	for _, kind := range []int{api.Equal, api.AtLeast, api.AtMost, api.Approx, api.Present} {
		writes(t, search(api.Filter{Kind: kind, Attr: "cn", Kids: many, Pieces: []api.Piece{{Kind: 9}}}), plain(search(api.Filter{Kind: kind, Attr: "cn"})))
	}
	p := pieces(slices.Repeat([]api.Piece{{Kind: api.Any, Text: "a"}}, 2000)...)
	p.Kids = many
	writes(t, search(p), plain(search(p)))
	writes(t, search(api.Filter{Kind: api.Or, Attr: "?", Value: "v", Pieces: []api.Piece{{Kind: 9}}}), plain(search(or())))
}

// P11.2: an attribute of an AddReq has values.
func TestWriteAddValues(t *testing.T) {
	for _, values := range [][]string{nil, {}} {
		lacks := api.Attr{Name: "a", Values: values}
		has := api.Attr{Name: "b", Values: []string{""}}
		for _, attrs := range [][]api.Attr{{lacks}, {has, lacks}, {lacks, has}, {has, lacks, has}} {
			fails(t, "no values", api.Msg{Op: api.AddReq, Attrs: attrs}, api.ErrForm)
			for _, op := range ops {
				if m := sample(op); op != api.AddReq {
					m.Attrs = attrs
					writes(t, m, plain(m))
				}
			}
		}
	}
	m := api.Msg{Op: api.ModifyReq, Mods: []api.Mod{{Name: "a"}}}
	writes(t, m, plain(m))
}

// P11.2: Put's error of what is too deep.
func TestWriteDeep(t *testing.T) {
	piece := pieces(api.Piece{Kind: api.Initial, Text: "a"})
	for _, row := range []struct {
		most int
		f    api.Filter
	}{{61, present("a")}, {61, and()}, {61, or()}, {60, leaf(api.Equal, "a", "b")}, {60, leaf(api.Approx, "a", "b")}, {60, and(present("a"))}, {59, piece}} {
		m := search(nots(row.most, row.f))
		writes(t, m, plain(m))
		for _, more := range []int{1, 2, 3, 10, 100, 900} {
			fails(t, "too deep", search(nots(row.most+more, row.f)), api.ErrDeep)
		}
	}
	fails(t, "a thousand", search(nots(999, present("a"))), api.ErrDeep)
	fails(t, "too many, though too deep", search(nots(1000, present("a"))), api.ErrForm)
	fails(t, "no filter, though too deep", search(and(nots(100, present("a")), not())), api.ErrForm)
	fails(t, "a number, though too deep", api.Msg{Op: api.SearchReq, Scope: 3, Filter: nots(100, present("a"))}, api.ErrForm)
	fails(t, "no ID, though too deep", api.Msg{ID: -1, Op: api.SearchReq, Filter: nots(100, present("a"))}, api.ErrValue)
}

// P11.2: Put's error of what is too long: a message is MaxPdu bytes at most, its own tag and length not among them.
func TestWriteLong(t *testing.T) {
	m := api.Msg{ID: 1, Op: api.DeleteReq, DN: strings.Repeat("a", api.MaxPdu-8)}
	writes(t, m, plain(m))
	is(t, "its bytes", len(plain(m)), api.MaxPdu+5)
	m.DN += "a"
	fails(t, "a byte too many", m, api.ErrLong)
	m.DN, m.Controls = m.DN[:len(m.DN)-6], []api.Control{{}}
	m.DN = m.DN[:len(m.DN)-1]
	writes(t, m, plain(m))
	m.DN += "a"
	fails(t, "a byte too many, with a control", m, api.ErrLong)
	long := strings.Repeat("a", api.MaxPdu+1)
	for _, m := range []api.Msg{
		{Op: api.BindReq, Version: 3, DN: long}, {Op: api.BindReq, Version: 3, Text: long}, {Op: api.BindReq, Version: 3, Sasl: true, Mech: long}, {Op: api.BindReq, Version: 3, Sasl: true, Has: true, Value: long},
		{Op: api.SearchReq, DN: long}, {Op: api.SearchReq, Names: []string{"", long}}, search(present(long)), search(leaf(api.Equal, "a", long)), search(pieces(api.Piece{Text: long})),
		{Op: api.SearchEntry, Attrs: []api.Attr{{Name: long}}}, {Op: api.AddReq, Attrs: []api.Attr{{Values: []string{long}}}}, {Op: api.ModifyReq, Mods: []api.Mod{{Values: []string{"", long}}}},
		{Op: api.MoveReq, Rdn: long}, {Op: api.MoveReq, HasSup: true, Sup: long}, {Op: api.CompareReq, Attr: long}, {Op: api.CompareReq, Text: long}, {Op: api.ExtendedReq, OID: long},
		{Op: api.ExtendedRes, Matched: long}, {Op: api.ExtendedRes, OID: long}, {Op: api.ModifyRes, Text: long}, {Op: api.UnbindReq, Controls: []api.Control{{OID: long}}}, {Op: api.UnbindReq, Controls: []api.Control{{Has: true, Value: long}}},
	} {
		fails(t, "too long", m, api.ErrLong)
		m.Op = api.UnbindReq
		if len(m.Controls) == 0 {
			writes(t, m, msg(m.ID, "\x42\x00"))
		}
	}
	fails(t, "no Version, though too long", api.Msg{Op: api.BindReq, DN: long}, api.ErrForm)
	fails(t, "no values, though too long", api.Msg{Op: api.AddReq, Attrs: []api.Attr{{Name: long, Values: []string{""}}, {}}}, api.ErrForm)
	fails(t, "a number, though too long", api.Msg{Op: api.ModifyReq, Mods: []api.Mod{{Name: long}, {Op: 3}}}, api.ErrForm)
	fails(t, "no filter, though too long", search(and(present(long), not())), api.ErrForm)
	fails(t, "no pieces, though too long", search(pieces(api.Piece{Text: long}, api.Piece{})), api.ErrForm)
}

// P11.2: which of Put's errors comes first.
func TestWriteDeepOrLong(t *testing.T) {
	long, half := strings.Repeat("a", api.MaxPdu+1), leaf(api.Equal, "a", strings.Repeat("a", 600000))
	deep := nots(100, present("a"))
	fails(t, "too long ahead", search(and(present(long), deep)), api.ErrLong)
	fails(t, "too long behind", search(and(deep, present(long))), api.ErrDeep)
	fails(t, "too long together, told behind", search(and(half, half, deep)), api.ErrDeep)
	fails(t, "too long together, told ahead", search(and(or(half, half), deep)), api.ErrLong)
	parts := pieces(slices.Repeat([]api.Piece{{Kind: api.Any, Text: "abcd"}}, 100000)...)
	fails(t, "pieces too long together, told behind", search(and(parts, parts, deep)), api.ErrDeep)
	parts.Pieces = slices.Repeat(parts.Pieces, 2)
	fails(t, "pieces too long by themselves", search(and(parts, deep)), api.ErrLong)
	m := search(deep)
	m.Names = []string{long}
	fails(t, "too long behind the filter", m, api.ErrDeep)
	m.DN = long
	fails(t, "too long ahead of the filter", m, api.ErrLong)
}

// frugal: Write refuses a message that is too long, and doesn't lay all of it first.
func frugal(t *testing.T, what string, m api.Msg, want api.Errno) {
	t.Helper()
	var before, after runtime.MemStats
	runtime.ReadMemStats(&before)
	fails(t, what, m, want)
	runtime.ReadMemStats(&after)
	if laid := after.TotalAlloc - before.TotalAlloc; laid > 100000000 {
		t.Errorf("%s: %d bytes of memory", what, laid)
	}
}

// P11.2: lists that are too long are refused, even where all of them might not fit into memory.
func TestWriteManyThings(t *testing.T) {
	for _, length := range []int{8, api.MaxPdu} {
		long := strings.Repeat("a", length)
		texts := slices.Repeat([]string{long}, 110000)
		attrs := slices.Repeat([]api.Attr{{Name: long, Values: texts}}, 100)
		mods := slices.Repeat([]api.Mod{{Op: 2, Values: texts}}, 100)
		frugal(t, "names", api.Msg{Op: api.SearchReq, Names: slices.Repeat(texts, 20)}, api.ErrLong)
		frugal(t, "attributes", api.Msg{Op: api.SearchEntry, Attrs: attrs}, api.ErrLong)
		frugal(t, "attributes to add", api.Msg{Op: api.AddReq, Attrs: attrs}, api.ErrLong)
		frugal(t, "modifications", api.Msg{Op: api.ModifyReq, Mods: mods}, api.ErrLong)
		frugal(t, "controls", api.Msg{Op: api.UnbindReq, Controls: slices.Repeat([]api.Control{{OID: long}}, 2000000)}, api.ErrLong)
		frugal(t, "no values at the end", api.Msg{Op: api.AddReq, Attrs: append(attrs, api.Attr{})}, api.ErrForm)
		frugal(t, "a bad number at the end", api.Msg{Op: api.ModifyReq, Mods: append(mods, api.Mod{Op: -1})}, api.ErrForm)
		frugal(t, "no piece at the end", search(pieces(append(slices.Repeat([]api.Piece{{Kind: api.Any, Text: long}}, 2000000), api.Piece{})...)), api.ErrForm)
		frugal(t, "pieces", search(pieces(slices.Repeat([]api.Piece{{Kind: api.Any, Text: long}}, 2000000)...)), api.ErrLong)
	}
}

// P11.2: as many things as fit, and one more.
func TestWriteAsManyAsFit(t *testing.T) {
	empty := make([]string, 524272)
	m := api.Msg{Op: api.SearchReq, Names: empty}
	writes(t, m, plain(m))
	is(t, "its bytes", len(plain(m)), api.MaxPdu+5)
	m.Names = append(empty, "")
	fails(t, "one name too many", m, api.ErrLong)
	m.Names = make([]string, 3000000)
	fails(t, "far too many", m, api.ErrLong)
	values := api.Msg{Op: api.SearchEntry, Attrs: []api.Attr{{Values: make([]string, 262000)}, {Values: make([]string, 262000)}}}
	writes(t, values, plain(values))
	values.Attrs = append(values.Attrs, values.Attrs[0])
	fails(t, "too many together", values, api.ErrLong)
}

// P11.2, P11.4: of many messages.
func TestWriteSome(t *testing.T) {
	r := rand.New(rand.NewSource(21))
	for i := range 6000 {
		m := someMsg(r, ops[i%len(ops)])
		before := said(m)
		s := plain(m)
		writes(t, m, s)
		is(t, "what was handed in", said(m), before)
		again(t, m)
	}
	for _, op := range ops {
		m := sample(op)
		writes(t, m, plain(m))
		again(t, m)
		again(t, wire.Bare(m))
	}
}

// again: P11.4 holds of a message that may be written.
func again(t *testing.T, m api.Msg) {
	t.Helper()
	s, e := wire.Write(m)
	is(t, "Write's error", e, api.OK)
	back, e := wire.Read(s)
	is(t, "Read's error", e, api.OK)
	is(t, "Read of Write", said(back), said(wire.Bare(m)))
	once, e := wire.Write(back)
	is(t, "Write of that", once, s)
	is(t, "its error", e, api.OK)
	once, _ = wire.Write(wire.Bare(m))
	is(t, "Write of Bare", once, s)
}

// P11.4: as deep, as long and as many as may be.
func TestAgainAtTheEdges(t *testing.T) {
	again(t, search(nots(61, present("a"))))
	again(t, search(nots(59, pieces(api.Piece{Kind: api.Final, Text: "a"}))))
	again(t, search(or(slices.Repeat([]api.Filter{present("cn")}, 999)...)))
	again(t, api.Msg{ID: 1, Op: api.DeleteReq, DN: strings.Repeat("a", api.MaxPdu-8)})
	again(t, api.Msg{ID: 2147483647, Op: api.AbandonReq, Target: 2147483647})
	again(t, api.Msg{Op: api.SearchReq, Names: make([]string, 524272)})
}

// Memory: Write changes nothing of what it is handed, spare room included.
func TestWriteKeepsSpareRoom(t *testing.T) {
	for _, op := range ops {
		m := sample(op)
		room := []any{roomy(&m.Names, "kept"), roomy(&m.Attrs, api.Attr{Name: "kept"}), roomy(&m.Mods, api.Mod{Name: "kept"}), roomy(&m.Controls, api.Control{OID: "kept"}), roomy(&m.Filter.Kids, present("kept"))}
		before, inRoom := said(m), said(room)
		_, e := wire.Write(m)
		is(t, "error", e, api.OK)
		wire.Bare(m)
		is(t, "what was handed in", said(m), before)
		is(t, "its spare room", said(room), inRoom)
	}
}

// roomy makes a list one with a thing in its spare room, and answers all of it.
func roomy[T any](list *[]T, thing T) []T {
	whole := append(slices.Clone(*list), thing)
	*list = whole[:len(*list)]
	return whole
}

// P1: Write and Bare end and don't panic, also of filters that stand beneath themselves or are deeper than calls within
// calls can follow.
func TestWriteEnds(t *testing.T) {
	deep := nots(1000000, present("a"))
	fails(t, "a deep one", search(deep), api.ErrForm)
	round := or(present("a"), and())
	round.Kids[1] = round
	fails(t, "a round one", search(round), api.ErrForm)
	narrow := not(and())
	narrow.Kids[0] = narrow
	fails(t, "a narrow round one", search(narrow), api.ErrForm)
	twice := present("a")
	for range 60 {
		twice = and(twice, twice)
	}
	fails(t, "each of two has two", search(twice), api.ErrForm)
	is(t, "Bare of a deep one", len(wire.Bare(search(deep)).Filter.Kids), 1)
	for _, op := range ops {
		m := sample(op)
		m.Filter = round
		is(t, "Bare of a round one", len(wire.Bare(m).Filter.Kids) == 2, op == api.SearchReq)
		m.Filter = deep
		_, e := wire.Write(m)
		is(t, "Write of a deep one", e == api.OK, op != api.SearchReq)
	}
	r := rand.New(rand.NewSource(22))
	for range 5000 {
		m := someMsg(r, r.Intn(30)-2)
		for range r.Intn(4) {
			ints := []*int{&m.ID, &m.Op, &m.Version, &m.Scope, &m.Deref, &m.Size, &m.Time, &m.Target, &m.Code, &m.Filter.Kind}
			*ints[r.Intn(len(ints))] = []int{-1, 0, 3, 4, 128, math.MinInt, math.MaxInt, 1 << 31}[r.Intn(8)]
		}
		s, e := wire.Write(m)
		sameS, sameE := wire.Write(m)
		is(t, "again", sameS, s)
		is(t, "its error again", sameE, e)
		is(t, "bytes beside an error", s != "", e == api.OK)
		bare, bareE := wire.Write(wire.Bare(m))
		is(t, "Write of Bare", bare, s)
		is(t, "its error", bareE, e)
	}
}
