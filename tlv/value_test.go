package tlv_test

import (
	"encoding/asn1"
	"math"
	"math/rand"
	"strings"
	"testing"

	"castellan/api"
	"castellan/tlv"
)

// numbers are such as have their edges at each number of bytes, and others.
func numbers() []int64 {
	list := []int64{0, 5, 1000, math.MinInt64, math.MaxInt64}
	for bits := range 63 {
		for more := int64(-2); more <= 2; more++ {
			list = append(list, 1<<bits+more, -1<<bits+more)
		}
	}
	r := rand.New(rand.NewSource(3))
	for range 5000 {
		list = append(list, int64(r.Uint64())>>r.Intn(64))
	}
	return list
}

// P7.3: Int, and Number of it.
func TestInt(t *testing.T) {
	rows := []struct {
		n    int64
		want string
	}{
		{0, "\x00"}, {1, "\x01"}, {5, "\x05"}, {127, "\x7f"}, {128, "\x00\x80"}, {129, "\x00\x81"}, {255, "\x00\xff"}, {256, "\x01\x00"},
		{32767, "\x7f\xff"}, {32768, "\x00\x80\x00"}, {65535, "\x00\xff\xff"}, {8388607, "\x7f\xff\xff"}, {8388608, "\x00\x80\x00\x00"},
		{2147483647, "\x7f\xff\xff\xff"}, {2147483648, "\x00\x80\x00\x00\x00"},
		{-1, "\xff"}, {-2, "\xfe"}, {-127, "\x81"}, {-128, "\x80"}, {-129, "\xff\x7f"}, {-256, "\xff\x00"}, {-257, "\xfe\xff"},
		{-32768, "\x80\x00"}, {-32769, "\xff\x7f\xff"}, {-2147483648, "\x80\x00\x00\x00"}, {-2147483649, "\xff\x7f\xff\xff\xff"},
		{math.MaxInt64, "\x7f\xff\xff\xff\xff\xff\xff\xff"}, {math.MinInt64, "\x80\x00\x00\x00\x00\x00\x00\x00"},
		{1<<55 - 1, "\x7f\xff\xff\xff\xff\xff\xff"}, {1 << 55, "\x00\x80\x00\x00\x00\x00\x00\x00"}, {-1 << 55, "\x80\x00\x00\x00\x00\x00\x00"},
	}
	for _, row := range rows {
		if got := tlv.Int(row.n); got != row.want {
			t.Errorf("Int(%d) is %x, wanted %x", row.n, got, row.want)
		}
		if n, ok := tlv.Number(row.want); n != row.n || !ok {
			t.Errorf("Number(%x) is %d, %v, wanted %d", row.want, n, ok, row.n)
		}
	}
}

// P7.3: Int, held against another program, and Number of it.
func TestIntOfManyNumbers(t *testing.T) {
	for _, n := range numbers() {
		s := tlv.Int(n)
		other, err := asn1.Marshal(n)
		if err != nil || string(other[2:]) != s {
			t.Errorf("Int(%d) is %x, wanted %x", n, s, other)
		}
		if got, ok := tlv.Number(s); got != n || !ok {
			t.Errorf("Number of Int(%d) is %d, %v", n, got, ok)
		}
	}
}

// noNumber: Number answers that there is none.
func noNumber(t *testing.T, data string) {
	t.Helper()
	if n, ok := tlv.Number(data); n != 0 || ok {
		t.Errorf("Number(%.40x) is %d, %v, wanted 0, false", data, n, ok)
	}
}

// P7.3: Number, where there is none.
func TestNoNumber(t *testing.T) {
	for _, data := range []string{
		"", "\x00\x00", "\x00\x01", "\x00\x7f", "\xff\xff", "\xff\x80", "\xff\xfe", "\x00\x00\x80", "\xff\xff\x7f", "\x00\x7f\xff", "\xff\x80\x00",
		"\x00\x00\x00\x00\x00\x00\x00\x05", "\xff\xff\xff\xff\xff\xff\xff\xff",
		"\x00\x80\x00\x00\x00\x00\x00\x00\x00", "\x01\x00\x00\x00\x00\x00\x00\x00\x00", "\xff\x7f\xff\xff\xff\xff\xff\xff\xff",
		"\x00\x00\x00\x00\x00\x00\x00\x00\x00", "\x7f\xff\xff\xff\xff\xff\xff\xff\xff", strings.Repeat("\x01", 16), strings.Repeat("\x05", 257), strings.Repeat("\x7f", 1<<20),
	} {
		noNumber(t, data)
	}
	for _, n := range numbers() {
		sign := "\x00"
		if n < 0 {
			sign = "\xff"
		}
		noNumber(t, sign+tlv.Int(n)) // a byte more than need be, or than a number has
	}
}

// P7.3: Number of all texts of up to three bytes, held against another program.
func TestNumberOfShortTexts(t *testing.T) {
	check := func(data string) {
		var want int64
		_, err := asn1.Unmarshal([]byte("\x02"+string([]byte{byte(len(data))})+data), &want)
		if err != nil {
			noNumber(t, data)
			return
		}
		if n, ok := tlv.Number(data); n != want || !ok {
			t.Errorf("Number(%x) is %d, %v, wanted %d", data, n, ok, want)
		}
	}
	for a := range 256 {
		check(string([]byte{byte(a)}))
		for b := range 256 {
			check(string([]byte{byte(a), byte(b)}))
			for _, c := range []byte{0, 1, 0x7f, 0x80, 0xff} {
				check(string([]byte{byte(a), byte(b), c}))
			}
		}
	}
	words("\x00\x01\x7f\x80\xff", 6, check)
}

// P7.3: Bool.
func TestBool(t *testing.T) {
	for c := range 256 {
		truth, ok := tlv.Bool(string([]byte{byte(c)}))
		is(t, "true", truth, c == 255)
		is(t, "a truth", ok, c == 0 || c == 255)
	}
	for _, data := range []string{"", "\x00\x00", "\xff\xff", "\x00\xff", "\xff\x00", "true", strings.Repeat("\xff", 1000)} {
		truth, ok := tlv.Bool(data)
		is(t, "true", truth, false)
		is(t, "a truth", ok, false)
	}
}

// P7.3: Leaf has what it was given, whatever that is.
func TestLeaf(t *testing.T) {
	for _, tag := range []int{0, 4, 0x30, 0x1f, 255, 256, -1, math.MinInt, math.MaxInt} {
		for _, data := range []string{"", "a", "\x00\xff", strings.Repeat("x", api.MaxPdu+1)} {
			n := tlv.Leaf(tag, data)
			is(t, "Tag", n.Tag, tag)
			is(t, "Data", n.Data == data, true)
			is(t, "Kids", len(n.Kids), 0)
		}
	}
}

// P7.3: Seq has what it was given, whatever that is.
func TestSeq(t *testing.T) {
	for _, tag := range []int{0x30, 0x31, 0xa0, 4, 0x1f, 256, -1, math.MinInt, math.MaxInt} {
		for _, kids := range [][]api.Node{nil, {}, {{}}, {leaf(1), leaf(2)}, {{Tag: 0x30, Data: "both", Kids: []api.Node{{Tag: -5}, leaf(0)}}, {Tag: 0x1f}}, {within(70, leaf(1)), leaf(3)}} {
			n := tlv.Seq(tag, kids...)
			is(t, "the node", all(n), all(api.Node{Tag: tag, Kids: kids}))
		}
	}
	is(t, "no Kids", len(tlv.Seq(0x30).Kids), 0)
	s, e := tlv.Put(tlv.Seq(0x30, tlv.Leaf(2, tlv.Int(5)), tlv.Seq(0xa0), tlv.Leaf(4, "x")))
	is(t, "Put", s, "\x30\x08\x02\x01\x05\xa0\x00\x04\x01x")
	is(t, "error", e, api.OK)
}

// P7.3: a node shares no memory with what it was made of, however deep that stands, nor do two of its lists.
func TestSeqIsAlone(t *testing.T) {
	inner := append(make([]api.Node, 0, 4), leaf(1))
	room := []api.Node{{Tag: 0x30, Kids: inner}, {Tag: 0x31, Kids: inner}, {Tag: 7, Data: "spare"}}
	n := tlv.Seq(0x30, room[:2]...)
	other := tlv.Seq(0x31, room[:2]...)
	want, wanted := shape(n), shape(other)
	is(t, "the list", all(api.Node{Kids: room}), all(api.Node{Kids: []api.Node{{Tag: 0x30, Kids: inner}, {Tag: 0x31, Kids: inner}, {Tag: 7, Data: "spare"}}}))
	inner[0].Tag = 9
	room[0].Tag = 0x3e
	is(t, "what it was made of is another one now", shape(n), want)
	n.Kids[0].Kids[0].Data = "changed"
	_ = append(n.Kids, api.Node{Tag: 1})
	_ = append(n.Kids[1].Kids, api.Node{Tag: 1})
	is(t, "the node itself is another one now", shape(other), wanted)
	is(t, "its second list", n.Kids[1].Kids[0].Data, "a")
	is(t, "the list's rest", room[2].Data, "spare")
	is(t, "the inner list", inner[0].Data, "a")
	is(t, "the inner list's room", zero(inner[:2][1]), true)
}

// P1: Seq of nodes that stand very deep, and of such as stand beneath themselves.
func TestSeqEnds(t *testing.T) {
	const levels = 1000000
	n := tlv.Seq(0x30, within(levels, leaf(1)))
	depth := 0
	for inner := n; len(inner.Kids) > 0; inner = inner.Kids[0] {
		depth++
	}
	is(t, "levels", depth, levels+1)
	fails(t, "too deep", n, api.ErrDeep)
	round := []api.Node{leaf(1), {Tag: 0x30}, leaf(2), {Tag: 0x31}}
	round[1].Kids = round
	round[3].Kids = round[1:3]
	n = tlv.Seq(0x30, round...)
	fails(t, "beneath itself", n, api.ErrDeep)
	round[0].Data, round[2].Data = "b", "b"
	is(t, "the first", n.Kids[1].Kids[1].Kids[0].Data, "a")
	is(t, "the third", n.Kids[1].Kids[3].Kids[1].Data, "aa")
}
