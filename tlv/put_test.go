package tlv_test

import (
	"encoding/asn1"
	"math"
	"math/rand"
	"slices"
	"strings"
	"testing"

	"castellan/api"
	"castellan/tlv"
)

// puts: Put answers these bytes.
func puts(t *testing.T, n api.Node, want string) {
	t.Helper()
	if s, e := tlv.Put(n); s != want || e != api.OK {
		t.Errorf("Put is %d bytes %.60x, %v, wanted %d: %.60x", len(s), s, e, len(want), want)
	}
}

// fails: Put answers no more than this error.
func fails(t *testing.T, what string, n api.Node, want api.Errno) {
	t.Helper()
	if s, e := tlv.Put(n); s != "" || e != want {
		t.Errorf("%s: Put is %d bytes, %v, wanted %v", what, len(s), e, want)
	}
}

// P7.2: elements.
func TestPut(t *testing.T) {
	rows := []struct {
		n    api.Node
		want string
	}{
		{api.Node{}, "\x00\x00"},
		{api.Node{Tag: 4}, "\x04\x00"},
		{api.Node{Tag: 4, Data: "ab"}, "\x04\x02ab"},
		{api.Node{Tag: 0x30}, "\x30\x00"},
		{api.Node{Tag: 0x30, Kids: []api.Node{}}, "\x30\x00"},
		{api.Node{Tag: 4, Kids: []api.Node{}}, "\x04\x00"},
		{api.Node{Tag: 0x30, Kids: []api.Node{{Tag: 2, Data: "\x05"}}}, "\x30\x03\x02\x01\x05"},
		{api.Node{Tag: 0xa0, Kids: []api.Node{{Tag: 0x80}, {Tag: 0x31, Kids: []api.Node{{Tag: 4, Data: "\x1f"}, {}}}, {Tag: 0xde, Data: "z"}}}, "\xa0\x0c\x80\x00\x31\x05\x04\x01\x1f\x00\x00\xde\x01z"},
		{api.Node{Tag: 0xfe}, "\xfe\x00"},
		{api.Node{Tag: 0x1e, Data: "\xff"}, "\x1e\x01\xff"},
	}
	for _, row := range rows {
		puts(t, row.n, row.want)
	}
}

// P7.2: each length in as few bytes as can be.
func TestPutOfLengths(t *testing.T) {
	for _, length := range []int{0, 1, 126, 127, 128, 129, 254, 255, 256, 257, 65534, 65535, 65536, 65537, api.MaxPdu - 1, api.MaxPdu} {
		puts(t, leaf(length), element(4, strings.Repeat("a", length)))
	}
	inner := element(4, strings.Repeat("a", 125))
	puts(t, api.Node{Tag: 0x30, Kids: []api.Node{leaf(125)}}, "\x30\x7f"+inner)
	puts(t, api.Node{Tag: 0x30, Kids: []api.Node{leaf(125), {}}}, "\x30\x81\x81"+inner+"\x00\x00")
}

// P7.2: every tag.
func TestPutOfEveryTag(t *testing.T) {
	for tag := -300; tag < 600; tag++ {
		n := api.Node{Tag: tag}
		if tag < 0 || tag > 255 || tag%32 == 31 {
			fails(t, "no tag", n, api.ErrTag)
			continue
		}
		puts(t, n, string([]byte{byte(tag), 0}))
		data, kids := n, n
		data.Data, kids.Kids = "a", []api.Node{{Tag: 4}}
		if tag/32%2 == 1 {
			fails(t, "constructed, with Data", data, api.ErrForm)
			puts(t, kids, string([]byte{byte(tag), 2, 4, 0}))
		} else {
			fails(t, "not constructed, with Kids", kids, api.ErrForm)
			puts(t, data, string([]byte{byte(tag), 1, 'a'}))
		}
	}
	for _, tag := range []int{math.MinInt, math.MinInt + 4, -1, -256, -252, 256, 256 + 4, 1<<32 + 4, math.MaxInt, math.MaxInt - 31} {
		fails(t, "no byte", api.Node{Tag: tag}, api.ErrTag)
	}
}

// P7.2: which error comes first.
func TestPutErrors(t *testing.T) {
	badTag := api.Node{Tag: 0x1f, Data: "a", Kids: []api.Node{{}}}
	badForm := api.Node{Tag: 0x30, Data: "a", Kids: []api.Node{{Tag: -1}}}
	kidsForm := api.Node{Tag: 4, Kids: []api.Node{{Tag: 0x1f}}}
	tooLong := leaf(api.MaxPdu + 1)
	seq := func(kids ...api.Node) api.Node { return api.Node{Tag: 0x30, Kids: kids} }
	fails(t, "a tag ahead of its form", badTag, api.ErrTag)
	fails(t, "a form ahead of its Kids", badForm, api.ErrForm)
	fails(t, "a form ahead of its Kids", kidsForm, api.ErrForm)
	fails(t, "a form ahead of its length", api.Node{Tag: 0x30, Data: tooLong.Data}, api.ErrForm)
	fails(t, "a tag ahead of its length", api.Node{Tag: 0x1f, Data: tooLong.Data}, api.ErrTag)
	fails(t, "both Data and Kids", api.Node{Tag: 4, Data: "a", Kids: []api.Node{{}}}, api.ErrForm)
	fails(t, "the first of two Kids", seq(badForm, badTag), api.ErrForm)
	fails(t, "the first of two Kids", seq(leaf(1), badTag, badForm), api.ErrTag)
	fails(t, "a Kid's Kids ahead of the next one", seq(seq(kidsForm), badTag), api.ErrForm)
	fails(t, "a tag ahead of what is in it", api.Node{Tag: 256, Kids: []api.Node{badForm}}, api.ErrTag)
	fails(t, "too long", tooLong, api.ErrLong)
	fails(t, "too long ahead of the next one", seq(tooLong, badTag), api.ErrLong)
	fails(t, "ahead of too long", seq(badTag, tooLong), api.ErrTag)
	fails(t, "a Kid ahead of the length of all", seq(leaf(api.MaxPdu), leaf(api.MaxPdu), badTag), api.ErrTag)
	fails(t, "a Kid's Kid ahead of the length of all", seq(leaf(api.MaxPdu), seq(badForm)), api.ErrForm)
	fails(t, "the length of an inner one ahead of the next one", seq(seq(leaf(api.MaxPdu)), badTag), api.ErrLong)
}

// P7.2: how long an element may be.
func TestPutLong(t *testing.T) {
	is(t, "MaxPdu", api.MaxPdu, 1048576)
	seq := func(kids ...api.Node) api.Node { return api.Node{Tag: 0x30, Kids: kids} }
	fails(t, "a byte too many", leaf(api.MaxPdu+1), api.ErrLong)
	body := element(4, strings.Repeat("a", api.MaxPdu-5))
	is(t, "five bytes ahead", len(body), api.MaxPdu)
	puts(t, seq(leaf(api.MaxPdu-5)), "\x30\x83\x10\x00\x00"+body)
	fails(t, "a byte too many within", seq(leaf(api.MaxPdu-4)), api.ErrLong)
	fails(t, "two bytes too many", seq(leaf(api.MaxPdu-5), api.Node{}), api.ErrLong)
	puts(t, seq(leaf(api.MaxPdu-7), api.Node{}), "\x30\x83\x10\x00\x00"+element(4, strings.Repeat("a", api.MaxPdu-7))+"\x00\x00")
	puts(t, seq(slices.Repeat([]api.Node{{Tag: 4}}, api.MaxPdu/2)...), "\x30\x83\x10\x00\x00"+strings.Repeat("\x04\x00", api.MaxPdu/2))
	fails(t, "a Kid too many", seq(slices.Repeat([]api.Node{{Tag: 4}}, api.MaxPdu/2+1)...), api.ErrLong)
}

// P7.2: as deep as may be, and one deeper.
func TestPutDepth(t *testing.T) {
	puts(t, within(64), nested(64, ""))
	puts(t, within(63, leaf(1)), nested(63, "\x04\x01a"))
	for _, inner := range []api.Node{{}, {Tag: 0x30}, {Tag: 0x1f}, {Tag: -1}, {Tag: 4, Kids: []api.Node{{}}}, leaf(api.MaxPdu + 1)} {
		fails(t, "too deep, ahead of all else", within(64, inner), api.ErrDeep)
	}
	fails(t, "a tag ahead of it", within(63, api.Node{Tag: 0x1f}, within(9)), api.ErrTag)
	fails(t, "a tag behind it", within(63, within(9), api.Node{Tag: 0x1f}), api.ErrDeep)
	fails(t, "the length of an inner one ahead of it", within(60, leaf(api.MaxPdu+1), within(9)), api.ErrLong)
	fails(t, "the length of an outer one behind it", within(60, leaf(api.MaxPdu), within(9)), api.ErrDeep)
}

// P7.2: nodes that would be too many to be laid, or that have no end, are refused all the same.
func TestPutOfEndlessNodes(t *testing.T) {
	many := api.Node{Tag: 0x30, Kids: slices.Repeat([]api.Node{leaf(api.MaxPdu)}, 1000000)}
	fails(t, "more than fits into memory", many, api.ErrLong)
	twice := leaf(1)
	for range 60 {
		twice = api.Node{Tag: 0x30, Kids: []api.Node{twice, twice}}
	}
	fails(t, "each of two has two", twice, api.ErrLong)
	round := []api.Node{leaf(1), {Tag: 0x30}, {Tag: 0x1f}}
	round[1].Kids = round
	fails(t, "a list beneath itself", api.Node{Tag: 0x30, Kids: round}, api.ErrDeep)
	round[0].Tag = -1
	fails(t, "a list beneath itself, with a tag ahead", api.Node{Tag: 0x30, Kids: round}, api.ErrTag)
}

// asASN1: another program reads the bytes as this node, and leaves that behind it.
func asASN1(t *testing.T, s string, n api.Node) string {
	t.Helper()
	var raw asn1.RawValue
	rest, err := asn1.Unmarshal([]byte(s), &raw)
	if err != nil {
		t.Errorf("%.60x: %v", s, err)
		return ""
	}
	tag := raw.Class<<6 | raw.Tag
	if raw.IsCompound {
		tag |= 0x20
	}
	is(t, "its tag", tag, n.Tag)
	left := string(raw.Bytes)
	if !raw.IsCompound {
		is(t, "its bytes", left, n.Data)
		left = ""
	}
	for _, kid := range n.Kids {
		left = asASN1(t, left, kid)
	}
	is(t, "behind its Kids", left, "")
	return string(rest)
}

// P7.2: of many trees, held against another program.
func TestPutOfTrees(t *testing.T) {
	r := rand.New(rand.NewSource(2))
	for range 3000 {
		n := someNode(r, 7)
		s, e := tlv.Put(n)
		is(t, "error", e, api.OK)
		is(t, "behind it", asASN1(t, s, n), "")
	}
}

// P7.4: Parse of what Put answers is the node, with what is behind it.
func TestParseOfPut(t *testing.T) {
	r := rand.New(rand.NewSource(4))
	list := []api.Node{{}, {Tag: 0x30}, within(64), within(63, leaf(3)), leaf(api.MaxPdu), within(3, leaf(65536), leaf(128))}
	for range 3000 {
		list = append(list, someNode(r, 6))
	}
	for _, n := range list {
		s, e := tlv.Put(n)
		is(t, "Put", e, api.OK)
		for _, behind := range []string{"", "\x00", "\x1f", s, someBytes(r, 20)} {
			got, rest, e := tlv.Parse(s + behind)
			if e != api.OK || rest != behind || shape(got) != shape(n) {
				t.Errorf("Parse of Put of %.100s is %.100s, %.60x, %v", shape(n), shape(got), rest, e)
			}
			sound(t, got)
		}
		got, e := tlv.Whole(s)
		is(t, "Whole of Put", e == api.OK && shape(got) == shape(n), true)
		again, e := tlv.Put(got)
		is(t, "Put of that", e == api.OK && again == s, true)
	}
}

// P7.4: each beginning that isn't all is ErrShort.
func TestParseOfBeginnings(t *testing.T) {
	r := rand.New(rand.NewSource(5))
	list := []api.Node{{}, {Tag: 0x30}, within(64), leaf(127), leaf(128), leaf(70000), within(5, leaf(200), leaf(0))}
	for range 300 {
		list = append(list, someNode(r, 5))
	}
	for _, n := range list {
		s, _ := tlv.Put(n)
		for length := range min(len(s), 3000) {
			refused(t, s[:length], api.ErrShort)
		}
		refused(t, s[:len(s)-1], api.ErrShort)
	}
}

// P7.2: a node that is put stays as it is, its spare room included.
func TestPutChangesNothing(t *testing.T) {
	room := []api.Node{leaf(1), {Tag: 0x30, Kids: []api.Node{leaf(2)}}, {Tag: 7, Data: "spare"}, {Tag: 0x31, Kids: []api.Node{leaf(3)}}}
	before := all(api.Node{Kids: room})
	puts(t, api.Node{Tag: 0x30, Kids: room[:2]}, "\x30\x09\x04\x01a\x30\x04\x04\x02aa")
	is(t, "the list", all(api.Node{Kids: room}), before)
}

// P1: Put ends, whatever it is given, and answers the same again; the node stays as it is.
func TestPutEnds(t *testing.T) {
	r := rand.New(rand.NewSource(6))
	for range 20000 {
		n := anyNode(r, 4)
		before := all(n)
		s, e := tlv.Put(n)
		again, sameE := tlv.Put(n)
		if s != again || e != sameE || (e != api.OK) != (s == "") {
			t.Errorf("the second Put is another one: %v, %v", e, sameE)
		}
		is(t, "the node", all(n), before)
		if e == api.OK {
			got, e := tlv.Whole(s)
			is(t, "Whole of Put", e == api.OK && shape(got) == shape(n), true)
		}
	}
}
