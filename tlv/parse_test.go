package tlv_test

import (
	"math/rand"
	"strings"
	"testing"

	"castellan/api"
	"castellan/tlv"
)

// parsed: Parse answers this tree, and this behind it.
func parsed(t *testing.T, s, want, rest string) {
	t.Helper()
	n, got, e := tlv.Parse(s)
	if e != api.OK || got != rest || shape(n) != want {
		t.Errorf("Parse(%.60x) is %.100s, %.60x, %v, wanted %s, %x", s, shape(n), got, e, want, rest)
	}
	sound(t, n)
}

// refused: neither Parse nor Whole answers more of s than this error.
func refused(t *testing.T, s string, want api.Errno) {
	t.Helper()
	n, rest, e := tlv.Parse(s)
	if e != want || rest != "" || !zero(n) {
		t.Errorf("Parse(%.60x) is %.100s, %.60x, %v, wanted %v", s, shape(n), rest, e, want)
	}
	if n, e := tlv.Whole(s); e != want || !zero(n) {
		t.Errorf("Whole(%.60x) is %.100s, %v, wanted %v", s, shape(n), e, want)
	}
}

// P7.1: elements, and what is behind them.
func TestParse(t *testing.T) {
	rows := []struct{ s, want, rest string }{
		{"\x30\x03\x02\x01\x05", "30( 02:05 ) ", ""},
		{"\x30\x03\x02\x01\x05z", "30( 02:05 ) ", "z"},
		{"\x04\x00", "04: ", ""},
		{"\x00\x00", "00: ", ""},
		{"\x04\x02ab\x04\x01c", "04:6162 ", "\x04\x01c"},
		{"\x30\x00", "30( ) ", ""},
		{"\x30\x00\x1f", "30( ) ", "\x1f"},
		{"\x20\x02\x00\x00", "20( 00: ) ", ""},
		{"\x04\x02\x1f\x80", "04:1f80 ", ""}, // bytes of one that isn't constructed are no elements
		{"\xc4\x01\x30", "c4:30 ", ""},
		{"\x9e\x01\xff", "9e:ff ", ""},
		{"\xfe\x00", "fe( ) ", ""},
		{"\x30\x0a\x02\x01\x01\x30\x03\x04\x01a\x80\x00", "30( 02:01 30( 04:61 ) 80: ) ", ""},
		{"\x30\x04\x30\x00\x30\x00\x00\x00", "30( 30( ) 30( ) ) ", "\x00\x00"},
		{"\x04\x81\x01a", "04:61 ", ""}, // lengths in more bytes than need be
		{"\x04\x82\x00\x01a", "04:61 ", ""},
		{"\x04\x83\x00\x00\x01a", "04:61 ", ""},
		{"\x04\x84\x00\x00\x00\x01ab", "04:61 ", "b"},
		{"\x04\x81\x00a", "04: ", "a"},
		{"\x04\x84\x00\x00\x00\x00", "04: ", ""},
		{"\x30\x81\x06\x04\x84\x00\x00\x00\x00", "30( 04: ) ", ""},
	}
	for _, row := range rows {
		parsed(t, row.s, row.want, row.rest)
		asPlain(t, row.s)
	}
}

// P7.1: lengths that are one byte, and such as are more.
func TestParseOfLengths(t *testing.T) {
	for _, length := range []int{0, 1, 126, 127, 128, 129, 255, 256, 257, 65535, 65536, api.MaxPdu - 1, api.MaxPdu} {
		data := strings.Repeat("x", length)
		n, rest, e := tlv.Parse(element(4, data) + "yz")
		is(t, "error", e, api.OK)
		is(t, "tag", n.Tag, 4)
		is(t, "its bytes", n.Data == data, true)
		is(t, "behind it", rest, "yz")
		s := "\x04\x84" + string([]byte{byte(length >> 24), byte(length >> 16), byte(length >> 8), byte(length)}) + data
		n, e = tlv.Whole(s)
		is(t, "with four bytes", e == api.OK && n.Data == data, true)
	}
}

// P7.1: each of the errors.
func TestParseErrors(t *testing.T) {
	rows := []struct {
		s    string
		want api.Errno
	}{
		{"", api.ErrShort},
		{"\x30", api.ErrShort},
		{"\x04", api.ErrShort},
		{"\x1f", api.ErrTag}, // ahead of the length, which lacks
		{"\x3f\x00", api.ErrTag},
		{"\x5f\x80", api.ErrTag}, // ahead of ErrLen
		{"\x7f\x00", api.ErrTag},
		{"\x9f\x00", api.ErrTag},
		{"\xff\x84\xff\xff\xff\xff", api.ErrTag},
		{"\x04\x80", api.ErrLen},
		{"\x30\x80\x00\x00", api.ErrLen},
		{"\x04\x85", api.ErrLen}, // ahead of ErrShort
		{"\x04\x85\x00\x00\x00\x00\x00", api.ErrLen},
		{"\x04\xfe", api.ErrLen},
		{"\x04\xff", api.ErrLen},
		{"\x04\x81", api.ErrShort},
		{"\x04\x82\x00", api.ErrShort},
		{"\x04\x83\xff\xff", api.ErrShort}, // ahead of ErrLong, which can't be told
		{"\x04\x84\xff\xff\xff", api.ErrShort},
		{"\x04\x83\x10\x00\x01", api.ErrLong}, // ahead of ErrShort
		{"\x30\x83\x10\x00\x01", api.ErrLong},
		{"\x04\x83\xff\xff\xff", api.ErrLong},
		{"\x04\x84\x00\x10\x00\x01", api.ErrLong},
		{"\x04\x84\x01\x00\x00\x00", api.ErrLong},
		{"\x04\x84\x80\x00\x00\x00", api.ErrLong},
		{"\x04\x84\xff\xff\xff\xff", api.ErrLong},
		{"\x04\x83\x10\x00\x00", api.ErrShort}, // as long as may be
		{"\x04\x01", api.ErrShort},
		{"\x04\x02a", api.ErrShort},
		{"\x04\x81\x80" + strings.Repeat("a", 127), api.ErrShort},
		{"\x30\x02\x1f", api.ErrShort}, // ahead of what is in it
		{"\x30\x01\x1f", api.ErrTag},
		{"\x30\x01\x04", api.ErrShort},
		{"\x30\x02\x04\x80", api.ErrLen},
		{"\x30\x02\x02\x01", api.ErrShort},
		{"\x30\x02\x02\x01\x05", api.ErrShort}, // the byte that lacks is there, but behind the outer one
		{"\x30\x03\x04\x82\x00\x00", api.ErrShort},
		{"\x30\x01\x30\x00", api.ErrShort},
		{"\x30\x03\x04\x00\x04", api.ErrShort},
		{"\x30\x04\x04\x00\x1f\x00", api.ErrTag},
		{"\x30\x05\x04\x83\x10\x00\x01", api.ErrLong},
		{"\x30\x04\x30\x02\x3f\x80", api.ErrTag},
		{"\x30\x06\x04\x80\x1f\x00\x04\x09", api.ErrLen}, // the first one
		{"\x30\x06\x04\x00\x04\x03\x1f\x00", api.ErrShort},
	}
	for _, row := range rows {
		refused(t, row.s, row.want)
		asPlain(t, row.s)
	}
}

// P7.1: every first byte, and every second one.
func TestParseOfEveryTagAndLength(t *testing.T) {
	for first := range 256 {
		for second := range 256 {
			s := string([]byte{byte(first), byte(second)})
			asPlain(t, s)
			asPlain(t, s+strings.Repeat("\x00", 300))
		}
	}
}

// P7.1: as deep as may be, and one deeper.
func TestParseDepth(t *testing.T) {
	is(t, "MaxNest", api.MaxNest, 64)
	deep := strings.Repeat("30( ", 64) + strings.Repeat(") ", 64)
	parsed(t, nested(64, "")+"x", deep, "x")
	parsed(t, nested(63, "\x04\x01a"), strings.Repeat("30( ", 63)+"04:61 "+strings.Repeat(") ", 63), "")
	parsed(t, nested(62, nested(2, "")+"\x04\x00"), strings.Repeat("30( ", 64)+") ) 04: "+strings.Repeat(") ", 62), "")
	for _, inner := range []string{"\x04\x00", "\x30\x00", "\x1f", "\x04", "\x04\x80", "\x04\x05", "\x04\x83\x10\x00\x01"} {
		refused(t, nested(64, inner), api.ErrDeep) // ahead of all else
		refused(t, nested(64, inner)+inner, api.ErrDeep)
		refused(t, nested(100, inner), api.ErrDeep)
	}
	refused(t, nested(62, "\x1f\x00"+nested(9, "")), api.ErrTag) // what is ahead of it comes first
	refused(t, nested(62, nested(9, "")+"\x1f\x00"), api.ErrDeep)
	refused(t, nested(63, "\x30\x05\x04"), api.ErrShort) // a length is asked ahead of what is in it
	refused(t, nested(3000, ""), api.ErrDeep)
}

// P7.1: the longest element may have many Kids; each is held against what is left of it.
func TestParseOfManyKids(t *testing.T) {
	s := element(0x30, strings.Repeat("\x04\x00", api.MaxPdu/2))
	n, e := tlv.Whole(s)
	is(t, "error", e, api.OK)
	is(t, "Kids", len(n.Kids), api.MaxPdu/2)
	refused(t, element(0x30, strings.Repeat("\x04\x00", api.MaxPdu/2-1)+"\x04\x01"), api.ErrShort)
	refused(t, element(0x30, strings.Repeat("\x04\x00", api.MaxPdu/2)+"\x04"), api.ErrLong)
}

// P7.1: Whole.
func TestWhole(t *testing.T) {
	n, e := tlv.Whole("\x30\x03\x02\x01\x05")
	is(t, "error", e, api.OK)
	is(t, "tree", shape(n), "30( 02:05 ) ")
	for _, s := range []string{"\x04\x00\x00", "\x04\x00\x04\x00", "\x30\x03\x02\x01\x05z", "\x30\x00\x1f", "\x04\x01ab", "\x04\x81\x00a"} {
		n, e := tlv.Whole(s)
		is(t, "something behind it", e, api.ErrForm)
		is(t, "no node", zero(n), true)
	}
	_, e = tlv.Whole("\x30\x01\x1f\x00") // Parse's error comes first
	is(t, "both", e, api.ErrTag)
}

// P7.1: of all short texts of such bytes as make a difference.
func TestParseOfShortTexts(t *testing.T) {
	words("\x00\x01\x02\x04\x1f\x30\x80\x81\x82\x85", 6, func(s string) { asPlain(t, s) })
	words("\x00\x30\x03\x84", 9, func(s string) { asPlain(t, s) })
}

// P7.1: of texts that were elements, before some of their bytes were turned.
func TestParseOfTurnedBytes(t *testing.T) {
	r := rand.New(rand.NewSource(7))
	for range 20000 {
		s, e := tlv.Put(someNode(r, 5))
		is(t, "Put", e, api.OK)
		b := []byte(s)
		for range 1 + r.Intn(3) {
			at := r.Intn(len(b))
			b[at] = []byte{0, 1, 4, 0x1f, 0x30, 0x80, 0x81, 0x84, byte(r.Intn(256)), b[at] + 1, b[at] - 1, b[at] ^ 0x20}[r.Intn(12)]
		}
		asPlain(t, string(b))
	}
}

// P7.1: one answer shares no memory with another one.
func TestParseAnswersAreAlone(t *testing.T) {
	const s = "\x30\x08\x30\x03\x04\x01a\x04\x01b"
	one, _, _ := tlv.Parse(s)
	two, _, _ := tlv.Parse(s)
	one.Kids[0].Kids[0].Data = "z"
	one.Kids[1].Tag = 9
	_ = append(one.Kids[0].Kids, api.Node{Tag: 7})
	is(t, "the other one", shape(two), "30( 30( 04:61 ) 04:62 ) ")
	is(t, "its own", shape(one), "30( 30( 04:7a ) 09:62 ) ")
}

// P1: Parse and Whole end, whatever they are given, and answer the same again.
func TestParseEnds(t *testing.T) {
	r := rand.New(rand.NewSource(1))
	texts := []string{strings.Repeat("\x30", 3000000), strings.Repeat("\x30\x82", 100000), strings.Repeat("\x00", 3000000), strings.Repeat("\xff", 3000000), strings.Repeat("\x30\x84\x00\x0f\xff\xff", 200000)}
	for range 20000 {
		texts = append(texts, someBytes(r, r.Intn(40)))
	}
	for _, s := range texts {
		n, rest, e := tlv.Parse(s)
		again, still, sameE := tlv.Parse(s)
		if rest != still || e != sameE || shape(n) != shape(again) {
			t.Errorf("the second Parse of %.40x is another one", s)
		}
		asPlain(t, s)
	}
}
