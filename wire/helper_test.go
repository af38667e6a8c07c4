package wire_test

import (
	"encoding/hex"
	"fmt"
	"math/rand"
	"regexp"
	"slices"
	"strings"
	"testing"

	"castellan/api"
	"castellan/tlv"
	"castellan/wire"
)

// is: a test fails, if something is another thing than was wanted.
func is[T comparable](t *testing.T, what string, got, want T) {
	t.Helper()
	if got != want {
		t.Errorf("%.300s: %.2000v, wanted %.2000v", what, fmt.Sprint(got), fmt.Sprint(want))
	}
}

// said answers all that a message, or something of it, has as a text, what plays no part too.
func said(m any) string { return strings.ReplaceAll(fmt.Sprintf("%#v", m), "(nil)", "{}") }

// nobody is the text of a message that has nothing.
var nobody = said(api.Msg{})

// ops are all operations.
var ops = []int{api.BindReq, api.BindRes, api.UnbindReq, api.SearchReq, api.SearchEntry, api.SearchDone, api.ModifyReq, api.ModifyRes, api.AddReq, api.AddRes, api.DeleteReq, api.DeleteRes, api.MoveReq, api.MoveRes, api.CompareReq, api.CompareRes, api.AbandonReq, api.ExtendedReq, api.ExtendedRes}

// opTags are their tags.
var opTags = map[int]byte{0: 0x60, 1: 0x61, 2: 0x42, 3: 0x63, 4: 0x64, 5: 0x65, 6: 0x66, 7: 0x67, 8: 0x68, 9: 0x69, 10: 0x4a, 11: 0x6b, 12: 0x6c, 13: 0x6d, 14: 0x6e, 15: 0x6f, 16: 0x50, 23: 0x77, 24: 0x78}

// results are the operations that are results and nothing else.
var results = []int{api.BindRes, api.SearchDone, api.ModifyRes, api.AddRes, api.DeleteRes, api.MoveRes, api.CompareRes}

// el answers the bytes of an element.
func el(tag byte, parts ...string) string {
	data := strings.Join(parts, "")
	n := len(data)
	switch {
	case n < 1<<7:
		return string([]byte{tag, byte(n)}) + data
	case n < 1<<8:
		return string([]byte{tag, 0x81, byte(n)}) + data
	case n < 1<<16:
		return string([]byte{tag, 0x82, byte(n >> 8), byte(n)}) + data
	}
	return string([]byte{tag, 0x83, byte(n >> 16), byte(n >> 8), byte(n)}) + data
}

// digits answers the bytes of a number that isn't below 0.
func digits(n int) string {
	var out []byte
	for first := true; first || n > 0 || out[len(out)-1] > 127; first = false {
		out = append(out, byte(n))
		n >>= 8
	}
	slices.Reverse(out)
	return string(out)
}

// num, enum and str answer elements of numbers and texts; yes and no are those of truths.
func num(n int) string    { return el(2, digits(n)) }
func enum(n int) string   { return el(10, digits(n)) }
func str(s string) string { return el(4, s) }

const (
	yes = "\x01\x01\xff"
	no  = "\x01\x01\x00"
)

// truth answers the element of a truth.
func truth(is bool) string {
	if is {
		return yes
	}
	return no
}

// all answers what of answers of each, one behind the other.
func all[T any](things []T, of func(T) string) string {
	var out strings.Builder
	for _, thing := range things {
		out.WriteString(of(thing))
	}
	return out.String()
}

// msg answers the bytes of a message with this operation, and what is behind it.
func msg(id int, op string, more ...string) string {
	return el(0x30, num(id), op, strings.Join(more, ""))
}

// plain is Write's words said in another way, of a message that may be written.
func plain(m api.Msg) string {
	var controls string
	if len(m.Controls) > 0 {
		controls = el(0xa0, all(m.Controls, plainControl))
	}
	if m.Op == api.UnbindReq || m.Op == api.DeleteReq || m.Op == api.AbandonReq {
		data := map[int]string{api.UnbindReq: "", api.DeleteReq: m.DN, api.AbandonReq: digits(max(m.Target, 0))}
		return msg(m.ID, el(opTags[m.Op], data[m.Op]), controls)
	}
	return msg(m.ID, el(opTags[m.Op], plainParts(m)), controls)
}

// plainControl answers the bytes of a control.
func plainControl(c api.Control) string {
	out := str(c.OID)
	if c.Critical {
		out += yes
	}
	if c.Has {
		out += str(c.Value)
	}
	return el(0x30, out)
}

// perhaps answers s, or nothing.
func perhaps(is bool, s string) string {
	if is {
		return s
	}
	return ""
}

// plainParts answers the bytes of an operation's parts.
func plainParts(m api.Msg) string {
	switch m.Op {
	case api.BindReq:
		how := el(0x80, m.Text)
		if m.Sasl {
			how = el(0xa3, str(m.Mech), perhaps(m.Has, str(m.Value)))
		}
		return num(m.Version) + str(m.DN) + how
	case api.SearchReq:
		return str(m.DN) + enum(m.Scope) + enum(m.Deref) + num(m.Size) + num(m.Time) + truth(m.TypesOnly) + plainFilter(m.Filter) + el(0x30, all(m.Names, str))
	case api.SearchEntry, api.AddReq:
		return str(m.DN) + el(0x30, all(m.Attrs, func(a api.Attr) string { return el(0x30, plainAttr(a.Name, a.Values)) }))
	case api.ModifyReq:
		return str(m.DN) + el(0x30, all(m.Mods, func(d api.Mod) string { return el(0x30, enum(d.Op), el(0x30, plainAttr(d.Name, d.Values))) }))
	case api.MoveReq:
		return str(m.DN) + str(m.Rdn) + truth(m.DeleteOld) + perhaps(m.HasSup, el(0x80, m.Sup))
	case api.CompareReq:
		return str(m.DN) + el(0x30, str(m.Attr), str(m.Text))
	case api.ExtendedReq:
		return el(0x80, m.OID) + perhaps(m.Has, el(0x81, m.Value))
	case api.ExtendedRes:
		return enum(m.Code) + str(m.Matched) + str(m.Text) + perhaps(m.OID != "", el(0x8a, m.OID)) + perhaps(m.Has, el(0x8b, m.Value))
	}
	return enum(m.Code) + str(m.Matched) + str(m.Text)
}

// plainAttr answers the bytes of a name and values.
func plainAttr(name string, values []string) string { return str(name) + el(0x31, all(values, str)) }

// plainFilter answers the bytes of a filter.
func plainFilter(f api.Filter) string {
	switch f.Kind {
	case api.And, api.Or, api.Not:
		return el(byte(0xa0+f.Kind), all(f.Kids, plainFilter))
	case api.Present:
		return el(0x87, f.Attr)
	case api.Pieces:
		return el(0xa4, str(f.Attr), el(0x30, all(f.Pieces, func(p api.Piece) string { return el(byte(0x80+p.Kind), p.Text) })))
	}
	return el(byte(0xa0+f.Kind), str(f.Attr), str(f.Value))
}

// tree answers a node as a text: a tag, with bytes behind a colon, or with Kids in parentheses; a blank at the end.
func tree(n api.Node) string {
	tag := hex.EncodeToString([]byte{byte(n.Tag)})
	if n.Tag&0x20 == 0 {
		return tag + ":" + hex.EncodeToString([]byte(n.Data)) + " "
	}
	return tag + "( " + all(n.Kids, tree) + ") "
}

// form answers a pattern of such a text: in it S, N, B stand for a text, a number, a truth, F for a filter, D for a
// number's digits, X for any bytes, h for half a byte; parentheses for themselves, square brackets for a pattern's own.
func form(pattern string) *regexp.Regexp {
	digits := `(?:[0-7]h|(?:00[89a-f]h|(?:0[1-9a-f]|[1-7]h)hh)(?:hh){0,2})`
	words := strings.NewReplacer("S", "04:(?:hh)*", "N", "02:"+digits, "B", "01:(?:00|ff)", "D", digits, "X", "(?:hh)*", "(", `\(`, ")", `\)`, "[", "(?:", "]", ")")
	return regexp.MustCompile("^" + strings.ReplaceAll(words.Replace(pattern), "h", "[0-9a-f]") + "$")
}

// Another way to read: the trees' texts are held against patterns.
var (
	idForm       = form("N ")
	controlsForm = form("a0( [30( S [B ]?[S ]?) ]*) ")
	opForms      = map[byte]*regexp.Regexp{
		0x60: form("60( 02:[0[1|2|3|4|5|6|7|8|9|a|b|c|d|e|f]|[1|2|3|4|5|6|7]h] S [80:X |a3( S [S ]?) ]) "),
		0x42: form("42: "),
		0x63: form("63( S 0a:0[0|1|2] 0a:0[0|1|2|3] N N B F 30( [S ]*) ) "),
		0x64: form("64( S 30( [30( S 31( [S ]*) ) ]*) ) "),
		0x66: form("66( S 30( [30( 0a:0[0|1|2] 30( S 31( [S ]*) ) ) ]*) ) "),
		0x68: form("68( S 30( [30( S 31( [S ]+) ) ]*) ) "),
		0x4a: form("4a:X "),
		0x6c: form("6c( S S B [80:X ]?) "),
		0x6e: form("6e( S 30( S S ) ) "),
		0x50: form("50:D "),
		0x77: form("77( 80:X [81:X ]?) "),
		0x78: form("78( 0a:D S S [8a:X ]?[8b:X ]?) "),
		0x61: form("61( 0a:D S S ) "),
		0x65: form("65( 0a:D S S ) "),
		0x67: form("67( 0a:D S S ) "),
		0x69: form("69( 0a:D S S ) "),
		0x6b: form("6b( 0a:D S S ) "),
		0x6d: form("6d( 0a:D S S ) "),
		0x6f: form("6f( 0a:D S S ) "),
	}
	filterForm = regexp.MustCompile(strings.NewReplacer("P", "(?:[0-9a-f]{2})+ ", "X", "[0-9a-f]* ").Replace(
		`a[3568]\( 04:X04:X\) |87:X|a4\( 04:X30\( (?:80:P(?:81:P)*(?:82:P)?|(?:81:P)+(?:82:P)?|82:P)\) \) |a[01]\( (?:F )*\) |a2\( F \) `))
)

// operation answers the text of an operation's tree, with F for a filter, if that is one.
func operation(n api.Node) string {
	if n.Tag != 0x63 || len(n.Kids) < 7 {
		return tree(n)
	}
	f := tree(n.Kids[6])
	for count := 0; f != "F "; {
		less := filterForm.ReplaceAllStringFunc(f, func(string) string {
			count++
			return "F "
		})
		if less == f || count > 1000 {
			return tree(n)
		}
		f = less
	}
	return "63( " + all(n.Kids[:6], tree) + f + all(n.Kids[7:], tree) + ") "
}

// plainErrno is the error of Read, found in another way.
func plainErrno(s string) api.Errno {
	n, e := tlv.Whole(s)
	if e != api.OK {
		return e
	}
	kids := n.Kids
	if n.Tag != 0x30 || len(kids) < 2 || len(kids) > 3 || !idForm.MatchString(tree(kids[0])) || len(kids) == 3 && kids[2].Tag != 0xa0 {
		return api.ErrForm
	}
	pattern := opForms[byte(kids[1].Tag)]
	if pattern == nil {
		return api.ErrOp
	}
	if !pattern.MatchString(operation(kids[1])) || len(kids) == 3 && !controlsForm.MatchString(tree(kids[2])) {
		return api.ErrForm
	}
	return api.OK
}

// spare are what may stand in what is read and isn't written: in a control a Critical that is false; no control; an OID
// without bytes.
var (
	spareFalse   = regexp.MustCompile(`(30\( 04:[0-9a-f]* )01:00 `)
	spareList    = regexp.MustCompile(`a0\( \) $`)
	spareOID     = regexp.MustCompile(`8a: `)
	extendedForm = regexp.MustCompile(`^78`)
)

// told answers the text of a message's tree without what isn't written.
func told(t *testing.T, s string) string {
	t.Helper()
	n, e := tlv.Whole(s)
	if e != api.OK || len(n.Kids) < 2 {
		t.Fatalf("%.100x is no message: %v", s, e)
	}
	op, controls := tree(n.Kids[1]), spareList.ReplaceAllString(spareFalse.ReplaceAllString(all(n.Kids[2:], tree), "$1"), "")
	if extendedForm.MatchString(op) {
		op = spareOID.ReplaceAllString(op, "")
	}
	return tree(n.Kids[0]) + op + controls
}

// asPlain: Read answers of s what is found in another way, and answers its error.
func asPlain(t *testing.T, s string) api.Errno {
	t.Helper()
	m, e := wire.Read(s)
	if want := plainErrno(s); e != want {
		t.Errorf("Read(%.200x) is %v, wanted %v", s, e, want)
		return e
	}
	if e != api.OK {
		is(t, "beside an error", said(m), nobody)
		return e
	}
	is(t, "all that was read", told(t, plain(m)), told(t, s))
	is(t, "Bare of what was read", said(wire.Bare(m)), said(m))
	is(t, "its own fields", said(m), said(clone(m)))
	return e
}

// clone answers m with no more than its op's fields, each told by its name here.
func clone(m api.Msg) api.Msg {
	out := api.Msg{ID: m.ID, Op: m.Op, Controls: m.Controls}
	switch m.Op {
	case api.BindReq:
		out.Version, out.DN, out.Sasl = m.Version, m.DN, m.Sasl
		if m.Sasl {
			out.Mech, out.Has, out.Value = m.Mech, m.Has, m.Value
		} else {
			out.Text = m.Text
		}
	case api.UnbindReq:
	case api.SearchReq:
		out.DN, out.Scope, out.Deref, out.Size, out.Time, out.TypesOnly, out.Filter, out.Names = m.DN, m.Scope, m.Deref, m.Size, m.Time, m.TypesOnly, m.Filter, m.Names
	case api.SearchEntry, api.AddReq:
		out.DN, out.Attrs = m.DN, m.Attrs
	case api.ModifyReq:
		out.DN, out.Mods = m.DN, m.Mods
	case api.DeleteReq:
		out.DN = m.DN
	case api.MoveReq:
		out.DN, out.Rdn, out.DeleteOld, out.HasSup, out.Sup = m.DN, m.Rdn, m.DeleteOld, m.HasSup, m.Sup
	case api.CompareReq:
		out.DN, out.Attr, out.Text = m.DN, m.Attr, m.Text
	case api.AbandonReq:
		out.Target = m.Target
	case api.ExtendedReq:
		out.OID, out.Has, out.Value = m.OID, m.Has, m.Value
	case api.ExtendedRes:
		out.Code, out.Matched, out.Text, out.OID, out.Has, out.Value = m.Code, m.Matched, m.Text, m.OID, m.Has, m.Value
	default:
		out.Code, out.Matched, out.Text = m.Code, m.Matched, m.Text
	}
	if !out.Has {
		out.Value = ""
	}
	if !out.HasSup {
		out.Sup = ""
	}
	return out
}

// These answer filters.
func and(kids ...api.Filter) api.Filter     { return api.Filter{Kind: api.And, Kids: kids} }
func or(kids ...api.Filter) api.Filter      { return api.Filter{Kind: api.Or, Kids: kids} }
func not(kids ...api.Filter) api.Filter     { return api.Filter{Kind: api.Not, Kids: kids} }
func present(attr string) api.Filter        { return api.Filter{Kind: api.Present, Attr: attr} }
func leaf(kind int, a, v string) api.Filter { return api.Filter{Kind: kind, Attr: a, Value: v} }
func pieces(list ...api.Piece) api.Filter {
	return api.Filter{Kind: api.Pieces, Attr: "cn", Pieces: list}
}

// nots answers f within so many others.
func nots(n int, f api.Filter) api.Filter {
	for range n {
		f = not(f)
	}
	return f
}

// search answers a SearchReq with a filter.
func search(f api.Filter) api.Msg { return api.Msg{ID: 1, Op: api.SearchReq, Filter: f} }

// someText answers a short text of any bytes.
func someText(r *rand.Rand) string {
	out := make([]byte, []int{0, 0, 1, 2, 3, 5, 127, 130}[r.Intn(8)])
	r.Read(out)
	return string(out)
}

// someNumber answers a number from 0 to 2147483647, often one at which something changes.
func someNumber(r *rand.Rand) int {
	return []int{0, 1, 2, 3, 127, 128, 255, 256, 32767, 32768, 8388607, 8388608, 2147483647, r.Intn(2147483648)}[r.Intn(14)]
}

// some answers up to four things.
func some[T any](r *rand.Rand, thing func(*rand.Rand) T) []T {
	var list []T
	for range r.Intn(5) {
		list = append(list, thing(r))
	}
	return list
}

// someFilter answers a filter of at most that depth.
func someFilter(r *rand.Rand, depth int) api.Filter {
	f := api.Filter{Kind: r.Intn(9), Attr: someText(r), Value: someText(r)}
	if depth == 1 && f.Kind <= api.Not {
		f.Kind = api.Present
	}
	switch f.Kind {
	case api.And, api.Or:
		f.Kids = some(r, func(r *rand.Rand) api.Filter { return someFilter(r, depth-1) })
	case api.Not:
		f.Kids = []api.Filter{someFilter(r, depth-1)}
	case api.Pieces:
		f.Pieces = somePieces(r)
	}
	return f
}

// somePieces answers pieces such as a filter has.
func somePieces(r *rand.Rand) []api.Piece {
	list := some(r, func(r *rand.Rand) api.Piece { return api.Piece{Kind: api.Any, Text: "." + someText(r)} })
	if r.Intn(2) == 0 || len(list) == 0 {
		list = append(list, api.Piece{Kind: api.Final, Text: "." + someText(r)})
	}
	if r.Intn(2) == 0 {
		list = append([]api.Piece{{Kind: api.Initial, Text: "." + someText(r)}}, list...)
	}
	return list
}

// someMsg answers a message of that operation that may be written; of all that an operation may have it has something,
// whether it plays a part or not.
func someMsg(r *rand.Rand, op int) api.Msg {
	is := func() bool { return r.Intn(2) == 0 }
	return api.Msg{
		ID: someNumber(r), Op: op, DN: someText(r), Version: 1 + r.Intn(127), Sasl: is(), Mech: someText(r), Text: someText(r),
		Scope: r.Intn(3), Deref: r.Intn(4), Size: someNumber(r), Time: someNumber(r), TypesOnly: is(),
		Filter: someFilter(r, 1+r.Intn(5)), Names: some(r, someText),
		Attrs: some(r, func(r *rand.Rand) api.Attr {
			return api.Attr{Name: someText(r), Values: append(some(r, someText), someText(r))}
		}),
		Mods: some(r, func(r *rand.Rand) api.Mod {
			return api.Mod{Op: r.Intn(3), Name: someText(r), Values: some(r, someText)}
		}),
		Rdn: someText(r), DeleteOld: is(), HasSup: is(), Sup: someText(r), Attr: someText(r), Target: someNumber(r),
		OID: someText(r), Has: is(), Value: someText(r), Code: someNumber(r), Matched: someText(r),
		Controls: some(r, func(r *rand.Rand) api.Control {
			return api.Control{OID: someText(r), Critical: is(), Has: is(), Value: someText(r)}
		}),
	}
}

// sample is a message of that operation that has all that it may.
func sample(op int) api.Msg {
	f := and(or(), not(leaf(api.Equal, "cn", "a")), pieces(api.Piece{Kind: api.Initial, Text: "b"}, api.Piece{Kind: api.Any, Text: "c"}, api.Piece{Kind: api.Final, Text: "d"}), leaf(api.AtLeast, "e", "f"), leaf(api.AtMost, "g", ""), present("h"), leaf(api.Approx, "", "i"))
	return api.Msg{
		ID: 300, Op: op, DN: "dc=z", Version: 3, Sasl: true, Mech: "M", Text: "text", Scope: 2, Deref: 3, Size: 1000, Time: 200, TypesOnly: true,
		Filter: f, Names: []string{"cn", "sn"}, Attrs: []api.Attr{{Name: "cn", Values: []string{"a", "b"}}, {Name: "sn", Values: []string{""}}},
		Mods: []api.Mod{{Op: api.ModReplace, Name: "cn", Values: []string{"c"}}, {Op: api.ModDelete, Name: "sn"}},
		Rdn:  "cn=r", DeleteOld: true, HasSup: true, Sup: "dc=s", Attr: "attr", Target: 5, OID: "1.2", Has: true, Value: "value", Code: 68, Matched: "dc=m",
		Controls: []api.Control{{OID: "1.3", Critical: true, Has: true, Value: "v"}, {OID: "1.4"}},
	}
}
