package wire_test

import (
	"math/rand"
	"slices"
	"strings"
	"testing"

	"castellan/api"
	"castellan/tlv"
	"castellan/wire"
)

// reads: Read answers this message.
func reads(t *testing.T, s string, want api.Msg) {
	t.Helper()
	m, e := wire.Read(s)
	if e != api.OK || said(m) != said(want) {
		t.Errorf("Read(%.200x) is %.1000s, %v, wanted %.1000s", s, said(m), e, said(want))
	}
	asPlain(t, s)
}

// refused: Read answers no more than this error.
func refused(t *testing.T, s string, want api.Errno) {
	t.Helper()
	if m, e := wire.Read(s); e != want || said(m) != nobody {
		t.Errorf("Read(%.200x) is %.1000s, %v, wanted %v", s, said(m), e, want)
	}
	asPlain(t, s)
}

// badOps: Read answers ErrForm of messages with these operations.
func badOps(t *testing.T, ops ...string) {
	t.Helper()
	for _, op := range ops {
		refused(t, msg(1, op), api.ErrForm)
	}
}

// The parts of a SearchReq ahead of its filter, and a filter.
var (
	ahead = str("dc=z") + enum(2) + enum(0) + num(0) + num(0) + no
	some1 = el(0x87, "cn")
)

// searching answers the bytes of a SearchReq with that filter.
func searching(filter string) string { return msg(1, el(0x63, ahead, filter, el(0x30))) }

// The chapter's examples.
func TestExamples(t *testing.T) {
	unbind := "\x30\x05\x02\x01\x07\x42\x00"
	bind := "\x30\x0c\x02\x01\x01\x60\x07\x02\x01\x03\x04\x00\x80\x00"
	reads(t, unbind, api.Msg{ID: 7, Op: api.UnbindReq})
	reads(t, bind, api.Msg{ID: 1, Op: api.BindReq, Version: 3})
	writes(t, api.Msg{ID: 7, Op: api.UnbindReq}, unbind)
	writes(t, api.Msg{ID: 1, Op: api.BindReq, Version: 3}, bind)
}

// rows are messages with all that they have, and their bytes.
var rows = []struct {
	m api.Msg
	s string
}{
	{api.Msg{ID: 1, Op: api.BindReq, Version: 127, DN: "cn=a", Text: "pass"}, msg(1, el(0x60, num(127), str("cn=a"), el(0x80, "pass")))},
	{api.Msg{ID: 1, Op: api.BindReq, Version: 1, DN: "cn=a", Sasl: true, Mech: "PLAIN"}, msg(1, el(0x60, num(1), str("cn=a"), el(0xa3, str("PLAIN"))))},
	{api.Msg{ID: 1, Op: api.BindReq, Version: 3, Sasl: true, Mech: "M", Has: true, Value: "v"}, msg(1, el(0x60, num(3), str(""), el(0xa3, str("M"), str("v"))))},
	{api.Msg{ID: 1, Op: api.BindReq, Version: 3, Sasl: true, Has: true}, msg(1, el(0x60, num(3), str(""), el(0xa3, str(""), str(""))))},
	{api.Msg{ID: 0, Op: api.UnbindReq}, msg(0, el(0x42))},
	{api.Msg{ID: 2, Op: api.SearchReq, DN: "dc=z", Scope: 2, Deref: 3, Size: 128, Time: 2147483647, TypesOnly: true, Filter: present("cn"), Names: []string{"*", "", "*"}},
		msg(2, el(0x63, str("dc=z"), "\x0a\x01\x02", "\x0a\x01\x03", "\x02\x02\x00\x80", "\x02\x04\x7f\xff\xff\xff", yes, el(0x87, "cn"), el(0x30, str("*"), str(""), str("*"))))},
	{api.Msg{ID: 2, Op: api.SearchReq, Filter: and()}, msg(2, el(0x63, str(""), enum(0), enum(0), num(0), num(0), no, el(0xa0), el(0x30)))},
	{api.Msg{ID: 128, Op: api.SearchEntry, DN: "cn=a", Attrs: []api.Attr{{Name: "cn", Values: []string{"a", "b"}}, {Name: "sn"}}},
		msg(128, el(0x64, str("cn=a"), el(0x30, el(0x30, str("cn"), el(0x31, str("a"), str("b"))), el(0x30, str("sn"), el(0x31)))))},
	{api.Msg{ID: 3, Op: api.SearchEntry}, msg(3, el(0x64, str(""), el(0x30)))},
	{api.Msg{ID: 4, Op: api.ModifyReq, DN: "x", Mods: []api.Mod{{Op: api.ModAdd, Name: "a", Values: []string{"1", "2"}}, {Op: api.ModDelete, Name: "b"}, {Op: api.ModReplace, Values: []string{""}}}},
		msg(4, el(0x66, str("x"), el(0x30,
			el(0x30, "\x0a\x01\x00", el(0x30, str("a"), el(0x31, str("1"), str("2")))),
			el(0x30, "\x0a\x01\x01", el(0x30, str("b"), el(0x31))),
			el(0x30, "\x0a\x01\x02", el(0x30, str(""), el(0x31, str("")))))))},
	{api.Msg{ID: 4, Op: api.ModifyReq}, msg(4, el(0x66, str(""), el(0x30)))},
	{api.Msg{ID: 5, Op: api.AddReq, DN: "y", Attrs: []api.Attr{{Name: "a", Values: []string{"1"}}, {Values: []string{"", ""}}}},
		msg(5, el(0x68, str("y"), el(0x30, el(0x30, str("a"), el(0x31, str("1"))), el(0x30, str(""), el(0x31, str(""), str(""))))))},
	{api.Msg{ID: 5, Op: api.AddReq}, msg(5, el(0x68, str(""), el(0x30)))},
	{api.Msg{ID: 6, Op: api.DeleteReq, DN: "dc=z"}, msg(6, "\x4a\x04dc=z")},
	{api.Msg{ID: 6, Op: api.DeleteReq}, msg(6, "\x4a\x00")},
	{api.Msg{ID: 7, Op: api.MoveReq, DN: "a", Rdn: "b", DeleteOld: true}, msg(7, el(0x6c, str("a"), str("b"), yes))},
	{api.Msg{ID: 7, Op: api.MoveReq, DN: "a", Rdn: "b", HasSup: true, Sup: "c"}, msg(7, el(0x6c, str("a"), str("b"), no, el(0x80, "c")))},
	{api.Msg{ID: 7, Op: api.MoveReq, HasSup: true}, msg(7, el(0x6c, str(""), str(""), no, el(0x80)))},
	{api.Msg{ID: 8, Op: api.CompareReq, DN: "a", Attr: "b", Text: "c"}, msg(8, el(0x6e, str("a"), el(0x30, str("b"), str("c"))))},
	{api.Msg{ID: 9, Op: api.AbandonReq, Target: 2147483647}, msg(9, "\x50\x04\x7f\xff\xff\xff")},
	{api.Msg{ID: 9, Op: api.AbandonReq}, msg(9, "\x50\x01\x00")},
	{api.Msg{ID: 10, Op: api.ExtendedReq, OID: "1.2"}, msg(10, el(0x77, el(0x80, "1.2")))},
	{api.Msg{ID: 10, Op: api.ExtendedReq, Has: true, Value: "v"}, msg(10, el(0x77, el(0x80), el(0x81, "v")))},
	{api.Msg{ID: 10, Op: api.ExtendedReq, OID: "1.2", Has: true}, msg(10, el(0x77, el(0x80, "1.2"), el(0x81)))},
	{api.Msg{ID: 11, Op: api.ExtendedRes, Code: 2, Matched: "m", Text: "t"}, msg(11, el(0x78, enum(2), str("m"), str("t")))},
	{api.Msg{ID: 11, Op: api.ExtendedRes, OID: "1"}, msg(11, el(0x78, enum(0), str(""), str(""), el(0x8a, "1")))},
	{api.Msg{ID: 11, Op: api.ExtendedRes, Has: true, Value: "v"}, msg(11, el(0x78, enum(0), str(""), str(""), el(0x8b, "v")))},
	{api.Msg{ID: 11, Op: api.ExtendedRes, OID: "1", Has: true}, msg(11, el(0x78, enum(0), str(""), str(""), el(0x8a, "1"), el(0x8b)))},
	{api.Msg{ID: 2147483647, Op: api.BindRes, Code: 49}, "\x30\x0f\x02\x04\x7f\xff\xff\xff\x61\x07\x0a\x01\x31\x04\x00\x04\x00"},
	{api.Msg{ID: 1, Op: api.SearchDone, Code: 2147483647, Matched: "dc=z", Text: "x\x00\xff"}, msg(1, el(0x65, "\x0a\x04\x7f\xff\xff\xff", str("dc=z"), str("x\x00\xff")))},
	{api.Msg{ID: 1, Op: api.ModifyRes, Matched: "m"}, msg(1, el(0x67, enum(0), str("m"), str("")))},
	{api.Msg{ID: 1, Op: api.AddRes, Text: "t"}, msg(1, el(0x69, enum(0), str(""), str("t")))},
	{api.Msg{ID: 1, Op: api.DeleteRes, Code: 128}, msg(1, el(0x6b, "\x0a\x02\x00\x80", str(""), str("")))},
	{api.Msg{ID: 1, Op: api.MoveRes, Code: 68}, msg(1, el(0x6d, enum(68), str(""), str("")))},
	{api.Msg{ID: 1, Op: api.CompareRes, Code: 6}, msg(1, el(0x6f, enum(6), str(""), str("")))},
	{api.Msg{ID: 1, Op: api.UnbindReq, Controls: []api.Control{{OID: "1"}, {OID: "2", Critical: true}, {OID: "3", Has: true, Value: "v"}, {Critical: true, Has: true}}},
		msg(1, "\x42\x00", el(0xa0, el(0x30, str("1")), el(0x30, str("2"), yes), el(0x30, str("3"), str("v")), el(0x30, str(""), yes, str(""))))},
}

// P11.1, P11.2: what each operation has, and how it is written.
func TestRows(t *testing.T) {
	seen := map[int]bool{}
	for _, row := range rows {
		reads(t, row.s, row.m)
		writes(t, row.m, row.s)
		seen[row.m.Op] = true
	}
	is(t, "all operations", len(seen), len(ops))
}

// filters are filters, and their bytes.
var filters = []struct {
	f api.Filter
	s string
}{
	{and(), "\xa0\x00"},
	{or(), "\xa1\x00"},
	{and(present("a"), or(present("b"), and())), el(0xa0, el(0x87, "a"), el(0xa1, el(0x87, "b"), el(0xa0)))},
	{not(present("a")), el(0xa2, el(0x87, "a"))},
	{not(not(or())), el(0xa2, el(0xa2, el(0xa1)))},
	{leaf(api.Equal, "cn", "v"), el(0xa3, str("cn"), str("v"))},
	{leaf(api.Equal, "", ""), el(0xa3, str(""), str(""))},
	{leaf(api.AtLeast, "cn", "v"), el(0xa5, str("cn"), str("v"))},
	{leaf(api.AtMost, "cn", "v"), el(0xa6, str("cn"), str("v"))},
	{leaf(api.Approx, "no type", "\x00\xff"), el(0xa8, str("no type"), str("\x00\xff"))},
	{present(""), "\x87\x00"},
	{present("cn"), "\x87\x02cn"},
	{pieces(api.Piece{Kind: api.Initial, Text: "a"}), el(0xa4, str("cn"), el(0x30, "\x80\x01a"))},
	{pieces(api.Piece{Kind: api.Any, Text: "a"}), el(0xa4, str("cn"), el(0x30, "\x81\x01a"))},
	{pieces(api.Piece{Kind: api.Final, Text: "a"}), el(0xa4, str("cn"), el(0x30, "\x82\x01a"))},
	{pieces(api.Piece{Kind: api.Initial, Text: "a"}, api.Piece{Kind: api.Any, Text: "b"}, api.Piece{Kind: api.Any, Text: "*"}, api.Piece{Kind: api.Final, Text: "\x00"}),
		el(0xa4, str("cn"), el(0x30, "\x80\x01a", "\x81\x01b", "\x81\x01*", "\x82\x01\x00"))},
	{pieces(api.Piece{Kind: api.Initial, Text: "a"}, api.Piece{Kind: api.Final, Text: "b"}), el(0xa4, str("cn"), el(0x30, "\x80\x01a", "\x82\x01b"))},
}

// P11.1, P11.2: filters.
func TestFilters(t *testing.T) {
	for _, row := range filters {
		m := search(row.f)
		m.DN, m.Scope = "dc=z", 2
		reads(t, searching(row.s), m)
		writes(t, m, searching(row.s))
	}
}

// P11.1: what is no filter.
func TestReadBadFilters(t *testing.T) {
	attr, value := str("cn"), str("v")
	bad := []string{
		"", "\x04\x00", "\x30\x00", "\x80\x00", "\x83\x00", "\xa7\x00", "\xa9\x00", "\xaa\x00", "\xb0\x00", "\x47\x00", "\x07\x00", "\x88\x00", some1 + some1,
		el(0xa0, attr), el(0xa0, some1, value), el(0xa1, "\xa9\x00"), el(0x20, some1), el(0x60, some1), el(0xe0, some1),
		el(0xa2), el(0xa2, some1, some1), el(0xa2, attr), el(0xa2, el(0xa0), el(0xa0)),
		el(0xa7, "\x04\x02cn"),
	}
	for _, tag := range []byte{0xa3, 0xa5, 0xa6, 0xa8} {
		bad = append(bad, el(tag), el(tag, attr), el(tag, attr, value, value), el(tag, attr, "\x0a\x01v"), el(tag, "\x02\x01v", value), el(tag, some1), el(tag-0x20, attr, value), el(tag&0x8f, "cnv"))
	}
	good := el(0x30, "\x81\x01a")
	for _, parts := range []string{"", "\x80\x00", "\x81\x00", "\x82\x00", "\x81\x01a\x81\x00", "\x83\x01a", "\x7f", "\x04\x01a", "\xa0\x00", "\xa1\x02\x81\x00",
		"\x81\x01a\x80\x01b", "\x80\x01a\x80\x01b", "\x82\x01a\x81\x01b", "\x82\x01a\x82\x01b", "\x82\x01a\x80\x01b", "\x01\x01a", "\x00\x01a", "\x02\x01a", "\xc0\x01a"} {
		bad = append(bad, el(0xa4, attr, el(0x30, parts)))
	}
	bad = append(bad, el(0xa4), el(0xa4, attr), el(0xa4, good), el(0xa4, good, attr), el(0xa4, attr, good, good), el(0xa4, attr, el(0x31, "\x81\x01a")), el(0xa4, str("cn"), str("a")), el(0xa4, "\x0a\x02cn", good))
	for _, f := range bad {
		s := searching(f)
		if _, e := tlv.Whole(s); e != api.OK {
			refused(t, s, e) // what isn't even an element
			continue
		}
		refused(t, s, api.ErrForm)
		if f != "" && f != some1+some1 { // two more Kids, or none
			refused(t, searching(el(0xa0, some1, f)), api.ErrForm)
		}
	}
}

// P11.1: as many filters as may be, and one more.
func TestReadManyFilters(t *testing.T) {
	is(t, "MaxNodes", api.MaxNodes, 1000)
	m, e := wire.Read(searching(el(0xa0, strings.Repeat(some1, 999))))
	is(t, "a thousand", e, api.OK)
	is(t, "its Kids", len(m.Filter.Kids), 999)
	refused(t, searching(el(0xa0, strings.Repeat(some1, 1000))), api.ErrForm)
	half := el(0xa1, strings.Repeat(some1, 498)) + some1 + el(0xa2, el(0xa3, str(""), str("")))
	is(t, "a thousand, deeper", asPlain(t, searching(el(0xa0, half, el(0xa1, strings.Repeat(some1, 496))))), api.OK)
	refused(t, searching(el(0xa0, half, el(0xa1, strings.Repeat(some1, 497)))), api.ErrForm)
	refused(t, searching(el(0xa0, strings.Repeat("\x87\x00", 500000))), api.ErrForm)
}

// P11.1: the error of Whole comes first.
func TestReadOfNoElement(t *testing.T) {
	good := msg(1, "\x42\x00")
	for _, row := range []struct {
		s    string
		want api.Errno
	}{
		{"", api.ErrShort}, {"0", api.ErrShort}, {good[:len(good)-1], api.ErrShort}, {"\x1f", api.ErrTag}, {"\x30\x80", api.ErrLen},
		{"\x30\x83\x10\x00\x01", api.ErrLong}, {good + "\x00", api.ErrForm}, {good + good, api.ErrForm}, {"\x30\x05\x02\x01\x07\x5f\x00", api.ErrTag},
		{strings.Repeat("\x30\x84\x00\x00\xff\xff", 20000), api.ErrShort}, {"\x31\x01\x1f", api.ErrTag},
	} {
		refused(t, row.s, row.want)
	}
	deep := some1
	for range 61 {
		deep = el(0xa2, deep)
	}
	is(t, "as deep as may be", asPlain(t, searching(deep)), api.OK)
	refused(t, searching(el(0xa2, deep)), api.ErrDeep)
}

// P11.1: what is no message.
func TestReadBadFrames(t *testing.T) {
	op, controls := "\x42\x00", "\xa0\x00"
	for _, s := range []string{
		el(0x31, num(1), op), el(0x20, num(1), op), el(0x70, num(1), op), "\x10\x05\x02\x01\x01\x42\x00", "\x04\x00", el(0xa0, num(1), op),
		el(0x30), el(0x30, num(1)), el(0x30, op), el(0x30, op, num(1)), el(0x30, num(1), op, controls, controls), el(0x30, num(1), op, controls, op),
		el(0x30, num(1), op, op), el(0x30, num(1), op, num(1)), el(0x30, num(1), op, "\x80\x00"), el(0x30, num(1), op, "\xa1\x00"), el(0x30, num(1), op, "\x30\x00"), el(0x30, num(1), op, "\xb0\x00"), el(0x30, num(1), op, "\x20\x00"), el(0x30, num(1), controls, op),
		el(0x30, "\x0a\x01\x01", op), el(0x30, str("\x01"), op), el(0x30, "\x82\x01\x01", op), el(0x30, "\x22\x00", op), el(0x30, "\x42\x01\x01", op),
		el(0x30, "\x02\x00", op), el(0x30, "\x02\x01\xff", op), el(0x30, "\x02\x01\x80", op), el(0x30, "\x02\x02\x00\x01", op), el(0x30, "\x02\x02\x00\x7f", op), el(0x30, "\x02\x02\xff\x80", op),
		el(0x30, "\x02\x04\x80\x00\x00\x00", op), el(0x30, "\x02\x05\x00\x80\x00\x00\x00", op), el(0x30, "\x02\x05\x00\x7f\xff\xff\xff", op), el(0x30, "\x02\x05\x01\x00\x00\x00\x01", op), el(0x30, "\x02\x08\x7f\xff\xff\xff\xff\xff\xff\xff", op), el(0x30, "\x02\x09\x01\x00\x00\x00\x00\x00\x00\x00\x01", op),
		el(0x30, num(1), "\x7e\x00", op), // ahead of what would be ErrOp
		el(0x30, "\x02\x01\xff", "\x7e\x00"),
		el(0x30, num(1), "\x7e\x00", controls, controls),
	} {
		refused(t, s, api.ErrForm)
	}
	refused(t, el(0x30, num(1), "\x7e\x00", controls), api.ErrOp)
	reads(t, "\x30\x82\x00\x09\x02\x81\x01\x01\x42\x83\x00\x00\x00", api.Msg{ID: 1, Op: api.UnbindReq}) // lengths in more bytes
}

// P11.1: every tag of an operation; an operation's error comes ahead of a bad control's.
func TestReadEveryTag(t *testing.T) {
	badControls := el(0xa0, "\x04\x00")
	count := 0
	for tag := range 256 {
		if tag%32 == 31 {
			continue
		}
		s := string([]byte{byte(tag), 0})
		want := api.ErrOp
		for _, known := range opTags {
			if int(known) == tag {
				want = api.ErrForm
				count++
			}
		}
		refused(t, msg(1, s, badControls), want)
		if want == api.ErrOp {
			refused(t, msg(1, s), want)
		} else {
			asPlain(t, msg(1, s))
		}
	}
	is(t, "tags", count, 19)
	for _, tag := range []byte{0x73, 0x79, 0x71, 0x51, 0x43, 0x62, 0x6a, 0x70, 0x57, 0x58, 0x40, 0x20, 0x30, 0xa3, 0xe0} {
		refused(t, msg(1, el(tag)), api.ErrOp)
	}
}

// P11.1: operations that aren't as they must be.
func TestReadBadOperations(t *testing.T) {
	v, d, p := num(3), str("x"), el(0x80, "p")
	badOps(t, el(0x60), el(0x60, v), el(0x60, v, d), el(0x60, v, p), el(0x60, d, v, p), el(0x60, v, d, p, p), el(0x60, v, d, p, d), el(0x60, v, d, d),
		el(0x60, num(0), d, p), el(0x60, num(128), d, p), el(0x60, "\x02\x01\xff", d, p), el(0x60, "\x02\x02\x00\x03", d, p), el(0x60, "\x0a\x01\x03", d, p), el(0x60, v, "\x80\x00", p),
		el(0x60, v, d, el(0xa3)), el(0x60, v, d, el(0xa3, p)), el(0x60, v, d, el(0xa3, d, d, d)), el(0x60, v, d, el(0xa3, d, p)), el(0x60, v, d, el(0xa0)), el(0x60, v, d, el(0xa3, d), p), el(0x60, v, d, p, el(0xa3, d)), el(0x60, v, d, "\x83\x00"), el(0x60, v, d, el(0xa3, d, v)))
	badOps(t, "\x42\x01\x00", "\x42\x02ab")
	names := el(0x30, d)
	parts := []string{d, enum(2), enum(0), num(0), num(0), no, some1, names}
	for i, part := range parts {
		for _, other := range []string{"", part + part, el(0x30, part), "\x01\x01\x01", "\x0a\x01\x04", "\x02\x01\xff", "\x0a\x01\xff", "\x02\x02\x00\x00", "\x0a\x02\x00\x02", "\x02\x05\x00\x80\x00\x00\x00", "\x02\x00", "\x0a\x00", "\x01\x00", "\x01\x02\xff\xff", "\x01\x01\xfe", el(0x31, d), el(0x30, num(0))} {
			badOps(t, el(0x63, strings.Join(slices.Concat(parts[:i], []string{other}, parts[i+1:]), "")))
		}
	}
	badOps(t, el(0x63, strings.Join(parts, ""), d), el(0x63, strings.Join(slices.Concat(parts[:1], []string{enum(3)}, parts[2:]), "")))
	one := el(0x30, d, el(0x31, d))
	for _, tag := range []byte{0x64, 0x68} {
		is(t, "one attribute", asPlain(t, msg(1, el(tag, d, el(0x30, one)))), api.OK)
		badOps(t, el(tag), el(tag, d), el(tag, el(0x30)), el(tag, d, el(0x30), d), el(tag, d, el(0x31)), el(tag, el(0x30), d), el(tag, d, one), el(tag, d, el(0x30, d)), el(tag, d, el(0x30, one, el(0x30))),
			el(tag, d, el(0x30, el(0x30, d))), el(tag, d, el(0x30, el(0x31, d, el(0x31, d)))), el(tag, d, el(0x30, el(0x30, d, el(0x30, d)))), el(tag, d, el(0x30, el(0x30, d, el(0x31, num(1))))), el(tag, d, el(0x30, el(0x30, d, el(0x31, d), d))), el(tag, d, el(0x30, el(0x30, el(0x31, d), d))), el(tag, num(1), el(0x30, one)), el(tag, d, el(0x30, el(0x30, num(1), el(0x31, d)))))
	}
	badOps(t, el(0x68, d, el(0x30, el(0x30, d, el(0x31)))), el(0x68, d, el(0x30, one, el(0x30, d, el(0x31)), one)))
	mod := func(parts ...string) string { return el(0x66, d, el(0x30, el(0x30, parts...))) }
	is(t, "one modification", asPlain(t, msg(1, mod(enum(2), one))), api.OK)
	badOps(t, el(0x66), el(0x66, d), el(0x66, el(0x30)), el(0x66, d, el(0x31)), el(0x66, d, el(0x30), d), el(0x66, d, el(0x30, d)), mod(), mod(enum(0)), mod(one), mod(one, enum(0)), mod(enum(3), one), mod(num(0), one), mod("\x0a\x01\xff", one), mod("\x0a\x02\x00\x00", one), mod("\x0a\x00", one), mod(enum(0), one, d),
		mod(enum(0), d, el(0x31, d)), mod(enum(0), el(0x30)), mod(enum(0), el(0x30, d)), mod(enum(0), el(0x31, d, el(0x31))), mod(enum(0), el(0x30, d, el(0x30))), mod(enum(0), el(0x30, d, el(0x31), d)), mod(enum(0), el(0x30, num(1), el(0x31))), mod(enum(0), el(0x30, d, el(0x31, num(1)))))
	badOps(t, el(0x6c), el(0x6c, d), el(0x6c, d, d), el(0x6c, d, no), el(0x6c, d, d, p), el(0x6c, d, d, no, d), el(0x6c, d, d, no, p, p), el(0x6c, d, d, no, "\x81\x00"), el(0x6c, d, d, "\x01\x01\x01"), el(0x6c, d, d, num(0)), el(0x6c, num(0), d, no), el(0x6c, d, num(0), no), el(0x6c, d, d, p, no), el(0x6c, d, d, no, el(0xa0)))
	badOps(t, el(0x6e), el(0x6e, d), el(0x6e, d, d), el(0x6e, d, d, d), el(0x6e, d, el(0x30)), el(0x6e, d, el(0x30, d)), el(0x6e, d, el(0x30, d, d, d)), el(0x6e, d, el(0x31, d, d)), el(0x6e, d, el(0x30, d, d), d), el(0x6e, el(0x30, d, d), d), el(0x6e, d, el(0x30, num(0), d)), el(0x6e, d, el(0x30, d, num(0))), el(0x6e, num(0), el(0x30, d, d)))
	badOps(t, "\x50\x00", "\x50\x01\xff", "\x50\x02\x00\x01", "\x50\x04\x80\x00\x00\x00", "\x50\x05\x00\x80\x00\x00\x00", "\x50\x05\x00\x00\x00\x00\x01", "\x50\x08\x01\x00\x00\x00\x00\x00\x00\x01", "\x50\x09\x00\x80\x00\x00\x00\x00\x00\x00\x01")
	badOps(t, el(0x77), el(0x77, d), el(0x77, "\x81\x00"), el(0x77, p, p), el(0x77, p, d), el(0x77, p, "\x81\x00\x81\x00"), el(0x77, "\x81\x00", p), el(0x77, p, "\x82\x00"), el(0x77, p, el(0xa1)))
}

// P11.1: results that aren't as they must be.
func TestReadBadResults(t *testing.T) {
	d := str("x")
	for _, op := range append([]int{api.ExtendedRes}, results...) {
		tag := opTags[op]
		is(t, "a result", asPlain(t, msg(1, el(tag, enum(0), d, d))), api.OK)
		badOps(t, el(tag), el(tag, enum(0)), el(tag, enum(0), d), el(tag, d, d), el(tag, d, d, enum(0)), el(tag, num(0), d, d), el(tag, "\x0a\x01\xff", d, d), el(tag, "\x0a\x00", d, d), el(tag, "\x0a\x02\x00\x01", d, d), el(tag, "\x0a\x05\x00\x80\x00\x00\x00", d, d), el(tag, enum(0), num(0), d), el(tag, enum(0), d, num(0)), el(tag, enum(0), d, d, d), el(tag, enum(0), d, d, "\xa3\x00"), el(tag, enum(0), d, d, "\x87\x00"), el(tag, enum(0), d, d, "\x80\x00"))
		if op != api.ExtendedRes {
			badOps(t, el(tag, enum(0), d, d, "\x8a\x011"), el(tag, enum(0), d, d, "\x8b\x00"))
		}
	}
	res := func(more string) string { return el(0x78, enum(0), d, d, more) }
	badOps(t, res("\x8b\x00\x8a\x011"), res("\x8a\x011\x8a\x011"), res("\x8b\x00\x8b\x00"), res("\x8a\x00\x8a\x00"), res("\x8a\x00\x8a\x011"), res("\x8a\x011\x8b\x00\x8b\x00"), res("\x8a\x011\x8b\x00\x8a\x011"), res("\x8c\x00"), res("\xaa\x00"), el(0x78, "\x8a\x011", enum(0), d, d))
	for _, row := range []struct {
		more string
		want api.Msg
	}{
		{"\x8a\x00", api.Msg{}},
		{"\x8a\x00\x8b\x01v", api.Msg{Has: true, Value: "v"}},
		{"\x8a\x00\x8b\x00", api.Msg{Has: true}},
	} {
		row.want.ID, row.want.Op, row.want.Matched, row.want.Text = 1, api.ExtendedRes, "x", "x"
		reads(t, msg(1, res(row.more)), row.want)
	}
}

// P11.1: controls.
func TestReadControls(t *testing.T) {
	reads(t, msg(1, "\x42\x00", "\xa0\x00"), api.Msg{ID: 1, Op: api.UnbindReq})
	reads(t, msg(1, "\x42\x00", el(0xa0, el(0x30, str("1"), no), el(0x30, str("1"), no, str("")))), api.Msg{ID: 1, Op: api.UnbindReq, Controls: []api.Control{{OID: "1"}, {OID: "1", Has: true}}})
	o := str("1")
	for _, c := range []string{"\x04\x011", "\x30\x00", el(0x30, yes), el(0x30, yes, o), el(0x30, no), el(0x30, num(1)), el(0x30, o, o, yes), el(0x30, o, o, o), el(0x30, o, yes, yes), el(0x30, o, yes, no, o), el(0x30, o, yes, o, o), el(0x30, o, "\x01\x01\x01"), el(0x30, o, "\x01\x00"), el(0x30, o, "\x01\x02\xff\xff"), el(0x30, o, "\x01\x01\x02", o), el(0x30, o, num(1)), el(0x30, o, "\x80\x00"), el(0x31, o), el(0x30, o, yes, num(1)), el(0x30, o, el(0x24)), "\x05\x00", el(0xa0, el(0x30, o))} {
		refused(t, msg(1, "\x42\x00", el(0xa0, c)), api.ErrForm)
		refused(t, msg(1, "\x42\x00", el(0xa0, el(0x30, o), c, el(0x30, o))), api.ErrForm)
		refused(t, msg(1, "\x43\x00", el(0xa0, c)), api.ErrOp)
	}
}

// P11.1: of trees that were messages, before some of their nodes were turned: as it is found in another way.
func TestReadTurned(t *testing.T) {
	r := rand.New(rand.NewSource(11))
	found := map[api.Errno]int{}
	for i := range 20000 {
		n, e := tlv.Whole(plain(someMsg(r, ops[i%len(ops)])))
		is(t, "Whole", e, api.OK)
		for range r.Intn(3) {
			turn(r, pick(r, &n))
		}
		s, e := tlv.Put(n)
		if e == api.OK {
			found[asPlain(t, s)]++
		}
	}
	for _, e := range []api.Errno{api.OK, api.ErrForm, api.ErrOp} {
		if found[e] < 300 {
			t.Errorf("%v was found %d times alone", e, found[e])
		}
	}
}

// pick answers a node of a tree.
func pick(r *rand.Rand, n *api.Node) *api.Node {
	for len(n.Kids) > 0 && r.Intn(4) > 0 {
		n = &n.Kids[r.Intn(len(n.Kids))]
	}
	return n
}

// turn makes another node of it, or of its Kids others.
func turn(r *rand.Rand, n *api.Node) {
	tags := []int{1, 2, 4, 10, 0x80, 0x81, 0x82, 0x87, 0x8a, 0x8b, 0x4a, 0x42, 0x50, 0x1e}
	datas := []string{"", "\x00", "\x01", "\x02", "\x03", "\x04", "\x7f", "\x80", "\xff", "\x00\x80", "\x00\x7f", "\x7f\xff\xff\xff", "\x00\x80\x00\x00\x00"}
	if n.Tag&0x20 == 0 {
		if r.Intn(2) == 0 {
			n.Tag = tags[r.Intn(len(tags))]
		} else {
			n.Data = datas[r.Intn(len(datas))]
		}
		return
	}
	at := r.Intn(len(n.Kids) + 1)
	switch k := r.Intn(5); {
	case k == 0:
		n.Tag = []int{0x30, 0x31, 0xa0, 0xa1, 0xa2, 0xa3, 0xa4, 0xa5, 0x60 + r.Intn(26)}[r.Intn(9)]
	case k == 1 && at < len(n.Kids):
		n.Kids = slices.Delete(n.Kids, at, at+1)
	case k == 2 && at < len(n.Kids):
		n.Kids = slices.Insert(n.Kids, at, n.Kids[at])
	case k == 3 && at < len(n.Kids):
		other := r.Intn(len(n.Kids))
		n.Kids[at], n.Kids[other] = n.Kids[other], n.Kids[at]
	default:
		n.Kids = slices.Insert(n.Kids, at, api.Node{Tag: tags[r.Intn(len(tags))], Data: datas[r.Intn(len(datas))]})
	}
}

// P11.1: of bytes that were messages, before some of them were turned.
func TestReadTurnedBytes(t *testing.T) {
	r := rand.New(rand.NewSource(12))
	for i := range 8000 {
		b := []byte(plain(someMsg(r, ops[i%len(ops)])))
		for range 1 + r.Intn(2) {
			b[r.Intn(len(b))] = byte(r.Intn(256))
		}
		asPlain(t, string(b))
	}
}

// P11.1: of short texts as the element of an operation, with every tag.
func TestReadShort(t *testing.T) {
	for tag := range 256 {
		for _, data := range []string{"", "\x00", "\x01", "\x7f", "\x80", "\xff", "\x00\x80", "\x04\x00", "\x80\x00", "\x80\x00\x81\x00", "\x0a\x01\x00\x04\x00\x04\x00", "\x02\x01\x03\x04\x00\x80\x00", "\x04\x00\x30\x00", "\x04\x00\x04\x00\x01\x01\xff", "\x04\x00\x30\x04\x04\x00\x04\x00"} {
			asPlain(t, msg(1, el(byte(tag), data)))
			asPlain(t, searching(el(byte(tag), data)))
		}
	}
}

// Memory: what was read is the same behind a change of another answer, and two lists of one share none.
func TestReadMemory(t *testing.T) {
	for _, op := range ops {
		s := plain(sample(op))
		one, _ := wire.Read(s)
		two, _ := wire.Read(s)
		spoil(&one)
		is(t, "the other one", said(two), said(wire.Bare(sample(op))))
	}
}

// P1: Read ends, whatever it is given, and answers the same again.
func TestReadEnds(t *testing.T) {
	r := rand.New(rand.NewSource(13))
	texts := []string{strings.Repeat("\x30", 100000), strings.Repeat("\xff", 100000), strings.Repeat("\x00", 100000), searching(el(0xa1, strings.Repeat(el(0xa4, str(""), el(0x30)), 50000)))}
	for range 8000 {
		b := make([]byte, r.Intn(30))
		r.Read(b)
		texts = append(texts, string(b), msg(r.Intn(3), el(opTags[ops[r.Intn(len(ops))]], string(b))))
	}
	for _, s := range texts {
		m, e := wire.Read(s)
		again, sameE := wire.Read(s)
		is(t, "again", said(again), said(m))
		is(t, "its error again", sameE, e)
		asPlain(t, s)
	}
}
