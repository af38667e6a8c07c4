package record_test

import (
	"math/rand"
	"strings"
	"testing"

	"castellan/api"
	"castellan/record"
	"castellan/tlv"
)

// reads: Read answers this update.
func reads(t *testing.T, s string, want api.Update) {
	t.Helper()
	if u, e := record.Read(s); e != api.OK || said(u) != said(want) {
		t.Errorf("Read(%.200x) is %.500s, %v, wanted %.500s", s, said(u), e, said(want))
	}
	asPlain(t, s)
}

// refused: Read answers no more than this error.
func refused(t *testing.T, s string, want api.Errno) {
	t.Helper()
	if u, e := record.Read(s); e != want || said(u) != nobody {
		t.Errorf("Read(%.200x) is %.500s, %v, wanted %v", s, said(u), e, want)
	}
	asPlain(t, s)
}

// asPlain: Read answers of s what is read in another way; asPlain answers whether that is an update.
func asPlain(t *testing.T, s string) bool {
	t.Helper()
	want, ok := plainRead(s)
	_, wantE := tlv.Whole(s)
	switch {
	case wantE != api.OK:
		want, ok = api.Update{}, false
	case !ok:
		wantE = api.ErrForm
	}
	if u, e := record.Read(s); e != wantE || said(u) != said(want) {
		t.Errorf("Read(%.200x) is %.500s, %v, wanted %.500s, %v", s, said(u), e, said(want), wantE)
	}
	return ok
}

// P17.1: Read of records of each kind.
func TestRead(t *testing.T) {
	for _, r := range rows() {
		reads(t, r.record, bare(r.u))
	}
	reads(t, el(0x30, kind(1), str("CN=A  b+x=\\,,dc=Z"), el(0x30, list("b", "2", "1"), list("b"), list("", ""))), added("CN=A  b+x=\\,,dc=Z", "b:2,1", "b", ":"))
	reads(t, el(0x30, kind(4), str("dc=z"), str(""), el(0x30)), moved("dc=z", ""))
}

// P17.1: Read's errors of what is no element: those of Whole.
func TestReadOfNoElement(t *testing.T) {
	whole := plain(added("dc=z", "a:b"))
	for _, c := range []struct {
		s    string
		want api.Errno
	}{
		{"", api.ErrShort}, {"\x30", api.ErrShort}, {"\x30\x01", api.ErrShort}, {"\x30\x02\x02\x01", api.ErrShort}, {"\x3f\x00", api.ErrTag}, {"\x30\x80", api.ErrLen}, {"\x30\x85", api.ErrLen},
		{"\x30\x83\x10\x00\x01", api.ErrLong}, {deep(65), api.ErrDeep}, {whole + "\x00", api.ErrForm}, {whole + whole, api.ErrForm}, {"\x04\x00\x00", api.ErrForm},
	} {
		refused(t, c.s, c.want)
	}
	for _, r := range rows() {
		for i := range len(r.record) {
			refused(t, r.record[:i], api.ErrShort)
		}
		refused(t, r.record+"\x00", api.ErrForm)
		refused(t, r.record+r.record, api.ErrForm)
	}
}

// deep answers so many elements, each within another one.
func deep(count int) string {
	s := ""
	for range count {
		s = el(0x30, s)
	}
	return s
}

// P17.1: elements that are no update's record.
func TestReadErrForm(t *testing.T) {
	d, l := str("dc=z"), el(0x30, list("a", "b"))
	for _, s := range []string{
		// Another tag, or parts that lack, are too many, or stand in another order
		el(0x31, kind(1), d, l), el(0x10), el(0x04, kind(1), d, l), el(0x60, kind(1), d, l), el(0x30), el(0x30, kind(1)), el(0x30, kind(1), d), el(0x30, kind(1), l), el(0x30, d, l), el(0x30, d, kind(1), l), el(0x30, kind(1), l, d),
		el(0x30, kind(1), d, l, l), el(0x30, kind(1), d, l, d), el(0x30, kind(1), d, l, el(0)), el(0x30, kind(1), d, d, l), el(0x30, kind(3), d, d, l), el(0x30, kind(3), d), el(0x30, kind(1), kind(1), d, l),
		el(0x30, kind(2)), el(0x30, kind(2), d, d), el(0x30, kind(2), d, l), el(0x30, kind(2), d, el(0x30)), el(0x30, kind(2), l),
		el(0x30, kind(4), d, l), el(0x30, kind(4), d, d), el(0x30, kind(4), d, d, d), el(0x30, kind(4), d, l, d), el(0x30, kind(4), d, d, d, l), el(0x30, kind(4), d, d, l, l), el(0x30, kind(4), l, d, d),
		// No kind, or one that is told in another way
		el(0x30, kind(0), d, l), el(0x30, kind(5), d, l), el(0x30, kind(255), d, l), el(0x30, el(2), d, l), el(0x30, el(2, "\x00\x01"), d, l), el(0x30, el(2, "\x00\x02"), d), el(0x30, el(2, "\x01\x00"), d, l), el(0x30, el(2, "\x01\x00\x00\x00\x01"), d, l),
		el(0x30, el(2, strings.Repeat("\x00", 8)+"\x01"), d, l), el(0x30, el(2, "\x01\x01"), d, l), el(0x30, el(10, "\x01"), d, l), el(0x30, el(4, "\x01"), d, l), el(0x30, el(0x22), d, l), el(0x30, el(1, "\x01"), d, l), el(0x30, el(0x22, kind(1)), d, l),
		// No name, or another text of one than its own
		el(0x30, kind(2), str("dc")), el(0x30, kind(2), str("dc=z,")), el(0x30, kind(2), str("=")), el(0x30, kind(2), str(" ")), el(0x30, kind(2), str("dc=a+DC=b")), el(0x30, kind(2), str("dc= z")), el(0x30, kind(2), str(strings.Repeat("a=,", 32)+"a=")), el(0x30, kind(2), str("a="+strings.Repeat("b", 4095))),
		el(0x30, kind(2), str(`dc=\7a`)), el(0x30, kind(2), str(`dc=a\ b`)), el(0x30, kind(2), str(`dc=a\=b`)), el(0x30, kind(2), str(`dc=a\#`)), el(0x30, kind(2), str(`dc=\2c`)), el(0x30, kind(2), str("dc=\\\x00")), el(0x30, kind(4), d, str(`dc=\7a`), l), el(0x30, kind(4), d, str("dc"), l), el(0x30, kind(1), str(`dc=\7A`), l),
		el(0x30, kind(2), el(0x24)), el(0x30, kind(2), el(0x24, d)), el(0x30, kind(2), el(12, "dc=z")), el(0x30, kind(2), el(0x84, "dc=z")), el(0x30, kind(4), d, el(12, "dc=z"), l), el(0x30, kind(4), d, el(0x30), l),
		// No attributes
		el(0x30, kind(1), d, el(0x31)), el(0x30, kind(1), d, el(0x10)), el(0x30, kind(1), d, el(4)), el(0x30, kind(1), d, list("a", "b")), el(0x30, kind(1), d, el(0x30, str("a"))), el(0x30, kind(1), d, el(0x30, el(0x31))), el(0x30, kind(1), d, el(0x30, el(0x30))),
		el(0x30, kind(1), d, el(0x30, el(0x30, str("a")))), el(0x30, kind(1), d, el(0x30, el(0x30, el(0x31)))), el(0x30, kind(1), d, el(0x30, el(0x30, str("a"), el(0x30)))), el(0x30, kind(1), d, el(0x30, el(0x30, str("a"), el(0x31), el(0x31)))), el(0x30, kind(1), d, el(0x30, el(0x30, el(0x31), str("a")))),
		el(0x30, kind(1), d, el(0x30, el(0x31, str("a"), el(0x31)))), el(0x30, kind(1), d, el(0x30, el(0x30, str("a"), str("b")))), el(0x30, kind(1), d, el(0x30, el(0x30, el(12, "a"), el(0x31)))), el(0x30, kind(1), d, el(0x30, el(0x30, str("a"), el(0x31, el(12, "b"))))), el(0x30, kind(1), d, el(0x30, el(0x30, str("a"), el(0x31, el(0x30))))),
		el(0x30, kind(1), d, el(0x30, el(0x30, str("a"), el(0x31, el(0x24, str("b")))))), el(0x30, kind(1), d, el(0x30, list("a", "b"), str("c"))), el(0x30, kind(1), d, el(0x30, el(0x30, el(0x24), el(0x31)))),
		// Lengths in more bytes than need be
		loose(0x30, kind(1), d, l), el(0x30, loose(2, "\x01"), d, l), el(0x30, kind(1), loose(4, "dc=z"), l), el(0x30, kind(1), d, loose(0x30, list("a", "b"))), el(0x30, kind(1), d, el(0x30, loose(0x30, str("a"), el(0x31)))), el(0x30, kind(1), d, el(0x30, el(0x30, loose(4, "a"), el(0x31)))),
		el(0x30, kind(1), d, el(0x30, el(0x30, str("a"), loose(0x31, str("b"))))), el(0x30, kind(1), d, el(0x30, el(0x30, str("a"), el(0x31, loose(4, "b"))))), el(0x30, kind(4), d, loose(4, "dc=z"), l), "\x30\x81\x09\x02\x01\x02\x04\x04dc=z", "\x30\x82\x00\x09\x02\x01\x02\x04\x04dc=z",
	} {
		refused(t, s, api.ErrForm)
	}
}

// P17.1: Read of records some of whose bytes are others, and of short texts.
func TestReadTurned(t *testing.T) {
	r := rand.New(rand.NewSource(2))
	count := map[bool]int{}
	for range 20000 {
		b := []byte(plain(bare(someUpdate(r))))
		for range 1 + r.Intn(2) {
			b[r.Intn(len(b))] = byte(r.Intn(256))
		}
		count[asPlain(t, string(b))]++
	}
	if count[true] < 1000 || count[false] < 5000 {
		t.Errorf("the tries are too much alike: %v", count)
	}
	for _, row := range rows() {
		for i := range len(row.record) {
			for c := range 256 {
				asPlain(t, row.record[:i]+string([]byte{byte(c)})+row.record[i+1:])
			}
		}
	}
}

// P17.1: of elements by chance that are much like records.
func TestReadNearly(t *testing.T) {
	r := rand.New(rand.NewSource(3))
	count := map[bool]int{}
	for range 30000 {
		count[asPlain(t, nearly(r, 0))]++
	}
	if count[true] < 500 || count[false] < 5000 {
		t.Errorf("the tries are too much alike: %v", count)
	}
}

// nearly answers the part of that depth of a record, or something else now and then.
func nearly(r *rand.Rand, depth int) string {
	switch {
	case r.Intn(40) == 0:
		return el([]byte{0x30, 0x31, 4, 2}[r.Intn(4)], nearly(r, depth+1))
	case r.Intn(40) == 0:
		return []string{"", str("dc=z"), kind(r.Intn(6)), el(0x30), el(0x31), loose(4, "a")}[r.Intn(6)]
	}
	out := ""
	switch depth {
	case 0:
		k := r.Intn(6)
		out = kind(k) + str([]string{"dc=z", "", "cn=a,dc=z", "no"}[min(r.Intn(8), r.Intn(8))%4])
		if k == 4 || r.Intn(20) == 0 {
			out += str("dc=z")
		}
		if k != 2 || r.Intn(20) == 0 {
			out += nearly(r, 1)
		}
	case 1:
		for range r.Intn(3) {
			out += nearly(r, 2)
		}
	case 2:
		out = str("cn") + nearly(r, 3)
	default:
		for range r.Intn(3) {
			out += str("v")
		}
		return el(0x31, out)
	}
	return el(0x30, out)
}

// P17.3: as long as may be, and a byte more.
func TestReadLong(t *testing.T) {
	u := added("dc=z", "n:"+strings.Repeat("a", api.MaxPdu-3-6-5-5-3-5-5))
	s := plain(u)
	is(t, "its bytes", len(s), api.MaxPdu+5)
	reads(t, s, u)
	u.Attrs[0].Values[0] += "a"
	refused(t, plain(u), api.ErrLong)
	many := added("dc=z")
	many.Attrs = make([]api.Attr, 170000)
	reads(t, plain(many), many)
	many.Attrs = []api.Attr{{Values: make([]string, 500000)}}
	reads(t, plain(many), many)
}

// P1: Read ends, whatever it is given, and answers the same again.
func TestReadEnds(t *testing.T) {
	r := rand.New(rand.NewSource(4))
	texts := []string{strings.Repeat("\x30", 100000), strings.Repeat("\xff", 100000), strings.Repeat("\x00", 1<<21), strings.Repeat("\x30\x00", 500000), el(0x30, strings.Repeat("\x30\x00", 500000)), deep(64), deep(65), el(0x30, kind(1), str("dc=z"), el(0x30, strings.Repeat("\x30\x00", 500000)))}
	for range 20000 {
		b := make([]byte, r.Intn(20))
		r.Read(b)
		texts = append(texts, string(b), el(0x30, string(b)), el(0x30, kind(r.Intn(5)), string(b)), el(0x30, kind(1), str(""), el(0x30, string(b))))
	}
	for _, s := range texts {
		u, e := record.Read(s)
		again, sameE := record.Read(s)
		is(t, "again", said(again), said(u))
		is(t, "its error again", sameE, e)
		asPlain(t, s)
	}
}
