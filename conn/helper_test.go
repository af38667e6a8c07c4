package conn_test

import (
	"fmt"
	"math/rand"
	"strings"
	"testing"

	"castellan/api"
	"castellan/conn"
	"castellan/dn"
	"castellan/wire"
)

// is: a test fails, if something is another thing than was wanted.
func is[T comparable](t *testing.T, what string, got, want T) {
	t.Helper()
	if got != want {
		t.Errorf("%.2000s: %.1000s, wanted %.1000s", what, fmt.Sprint(got), fmt.Sprint(want))
	}
}

// bytesOf answers the bytes of messages that can be written.
func bytesOf(msgs ...api.Msg) string {
	var out strings.Builder
	for _, m := range msgs {
		s, e := wire.Write(m)
		if e != api.OK {
			panic(fmt.Sprintf("%v: %+v", e, m))
		}
		out.WriteString(s)
	}
	return out.String()
}

// name answers the name of a text.
func name(text string) api.DN {
	d, e := dn.Parse(text)
	if e != api.OK {
		panic(text)
	}
	return d
}

// text answers a name as a text; the name without RDNs as -.
func text(d api.DN) string {
	if len(d) == 0 {
		return "-"
	}
	s, e := dn.Print(d)
	if e != api.OK {
		return fmt.Sprintf("%v %q", e, d)
	}
	return s
}

// said answers messages as a text, in which lists without elements are the same, nil or not.
func said(msgs []api.Msg) string {
	var out []string
	for _, m := range msgs {
		out = append(out, strings.ReplaceAll(fmt.Sprintf("%#v", m), "(nil)", "{}"))
	}
	return strings.Join(out, "\n")
}

// fed: what a Feed tells is this, and the connection is closed, or isn't.
func fed(t *testing.T, what string, c *conn.Conn, closed bool, parts []string, bad bool, want ...api.Msg) {
	t.Helper()
	msgs, ok := c.Feed(parts...)
	is(t, what, said(msgs), said(want))
	is(t, what+": bad", ok, bad)
	is(t, what+": closed", c.Closed(), closed)
}

// bind, search, extend and unbind are requests.
func bind(id int) api.Msg {
	return api.Msg{ID: id, Op: api.BindReq, Version: 3, DN: "cn=a", Text: "p"}
}

func search(id int) api.Msg {
	return api.Msg{ID: id, Op: api.SearchReq, DN: "dc=z", Scope: 2, Filter: api.Filter{Kind: api.And, Kids: []api.Filter{{Kind: api.Present, Attr: "cn"}}}, Names: []string{"cn", "sn"}, Controls: []api.Control{{OID: "1.2", Critical: true, Has: true, Value: "v"}}}
}

func unbind(id int) api.Msg { return api.Msg{ID: id, Op: api.UnbindReq} }

// requests are one of each operation that is asked for, but UnbindReq.
func requests() []api.Msg {
	return []api.Msg{
		bind(1), search(2),
		{ID: 3, Op: api.ModifyReq, DN: "cn=a", Mods: []api.Mod{{Op: api.ModAdd, Name: "sn", Values: []string{"x", "y"}}}},
		{ID: 4, Op: api.AddReq, DN: "cn=a", Attrs: []api.Attr{{Name: "sn", Values: []string{"x", "y"}}, {Name: "cn", Values: []string{"a"}}}},
		{ID: 5, Op: api.DeleteReq, DN: "cn=a"},
		{ID: 6, Op: api.MoveReq, DN: "cn=a", Rdn: "cn=b", HasSup: true, Sup: "dc=z"},
		{ID: 7, Op: api.CompareReq, DN: "cn=a", Attr: "cn", Text: "a"},
		{ID: 8, Op: api.AbandonReq, Target: 2},
		{ID: 2147483647, Op: api.ExtendedReq, OID: "1.3", Has: true, Value: "\x00"},
		{ID: 1, Op: api.BindReq, Version: 127, Sasl: true, Mech: "M", Has: true},
	}
}

// responses are one of each operation that nobody asks for.
func responses() []api.Msg {
	return []api.Msg{
		{ID: 1, Op: api.BindRes}, {ID: 1, Op: api.SearchEntry, DN: "cn=a"}, {ID: 1, Op: api.SearchDone}, {ID: 1, Op: api.ModifyRes}, {ID: 1, Op: api.AddRes},
		{ID: 1, Op: api.DeleteRes}, {ID: 1, Op: api.MoveRes}, {ID: 1, Op: api.CompareRes}, {ID: 1, Op: api.ExtendedRes},
	}
}

// broken are bytes that no request begins with.
func broken() map[string]string {
	out := map[string]string{
		"another tag":                   "\x31",
		"no tag":                        "\x00",
		"a length without bytes":        "\x30\x80",
		"a length of five bytes":        "\x30\x85",
		"a length that is too long":     "\x30\x83\x10\x00\x01",
		"no element in it":              "\x30\x00",
		"an ID alone":                   "\x30\x03\x02\x01\x01",
		"an element that is cut off":    "\x30\x05\x02\x01\x01\x42\x01",
		"an ID below 0":                 "\x30\x05\x02\x01\xff\x42\x00",
		"an ID that is written long":    "\x30\x06\x02\x02\x00\x01\x42\x00",
		"an operation that is none":     "\x30\x05\x02\x01\x01\x5e\x00",
		"an Unbind with bytes":          "\x30\x06\x02\x01\x01\x42\x01\x00",
		"something behind the controls": "\x30\x09\x02\x01\x01\x42\x00\xa0\x00\x04\x00",
		"a request with the ID 0":       bytesOf(bind(0)),
		"an Unbind with the ID 0":       bytesOf(unbind(0)),
		"an Abandon with the ID 0":      bytesOf(api.Msg{Op: api.AbandonReq}),
		"the notice":                    conn.Notice(),
	}
	for _, m := range responses() {
		out[fmt.Sprint("a response ", m.Op)] = bytesOf(m)
	}
	return out
}

// cut answers the same bytes in parts, by chance: some without bytes.
func cut(r *rand.Rand, s string) []string {
	var out []string
	for s != "" {
		n := min(r.Intn(20), len(s))
		out = append(out, s[:n])
		s = s[n:]
	}
	return append(out, "")
}

// someText answers a text by chance.
func someText(r *rand.Rand) string {
	return []string{"", "cn=a", "dc=z", "x\x00y", "\x30\x05\x02\x01\x01", strings.Repeat("l", 150)}[r.Intn(6)]
}

// someTexts answers a list of texts by chance, not less than so many.
func someTexts(r *rand.Rand, least int) []string {
	var out []string
	for range least + r.Intn(3) {
		out = append(out, someText(r))
	}
	return out
}

// someRequest answers a request by chance, with an ID that isn't 0, and no UnbindReq, which has nothing that plays no part.
func someRequest(r *rand.Rand) api.Msg {
	m := requests()[r.Intn(10)]
	m.ID = []int{1, 127, 128, 255, 65536, 2147483647}[r.Intn(6)]
	switch m.Op {
	case api.BindReq:
		m.DN = someText(r)
		if m.Has {
			m.Value = someText(r)
		}
	case api.SearchReq:
		m.DN, m.Size, m.Time, m.TypesOnly, m.Names = someText(r), r.Intn(1000), r.Intn(3), r.Intn(2) == 0, someTexts(r, 0)
	case api.AddReq:
		m.Attrs[0].Values = someTexts(r, 1)
	case api.ModifyReq:
		m.Mods[0].Values = someTexts(r, 0)
	case api.AbandonReq:
		m.Target = r.Intn(1000)
	default:
		m.DN = someText(r)
		if m.Op == api.ExtendedReq {
			m.DN, m.Value = "", someText(r)
		}
	}
	m.Controls = nil
	for range r.Intn(3) {
		m.Controls = append(m.Controls, api.Control{OID: someText(r), Critical: r.Intn(2) == 0, Has: true, Value: someText(r)})
	}
	return m
}
