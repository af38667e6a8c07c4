package feed_test

import (
	"math/rand"
	"slices"
	"strings"
	"testing"

	"castellan/api"
	"castellan/feed"
)

// is: a test fails, if something is another thing than was wanted.
func is[T comparable](t *testing.T, what string, got, want T) {
	t.Helper()
	if got != want {
		t.Errorf("%s: %v, wanted %v", what, got, want)
	}
}

// cuts: Cut answers so.
func cuts(t *testing.T, s string, want int, wantE api.Errno) {
	t.Helper()
	if n, e := feed.Cut(s); n != want || e != wantE {
		t.Errorf("Cut(%d bytes %.40x) is %d, %v, wanted %d, %v", len(s), s, n, e, want, wantE)
	}
}

// message answers a message of so many bytes behind its length, which is told in count bytes (0: in its first one).
func message(count, length int) string {
	front := []byte{0x30, byte(length)}
	if count > 0 {
		front[1] = byte(128 + count)
	}
	for i := range count {
		front = append(front, byte(length>>(8*(count-1-i))))
	}
	return string(front) + strings.Repeat("\x1f", length)
}

// messages are such as are whole.
func messages() []string {
	list := []string{message(1, 128), message(2, 256), message(3, 65536), message(3, api.MaxPdu-1), message(3, api.MaxPdu), message(4, api.MaxPdu)}
	for count := range 5 {
		for _, length := range []int{0, 1, 2, 5, 100, 127} {
			list = append(list, message(count, length))
		}
	}
	return list
}

// broken are beginnings by which it is told that they will never be a message, and the errors; a byte less doesn't tell it.
func broken() []struct {
	s    string
	want api.Errno
} {
	return []struct {
		s    string
		want api.Errno
	}{
		{"\x31", api.ErrForm},
		{"\x00", api.ErrForm},
		{"\x10", api.ErrForm},
		{"\x1f", api.ErrForm},
		{"\xb0", api.ErrForm},
		{"\xff", api.ErrForm},
		{"\x30\x80", api.ErrLen},
		{"\x30\x85", api.ErrLen},
		{"\x30\x86", api.ErrLen},
		{"\x30\xfe", api.ErrLen},
		{"\x30\xff", api.ErrLen},
		{"\x30\x83\x10\x00\x01", api.ErrLong},
		{"\x30\x83\x20\x00\x00", api.ErrLong},
		{"\x30\x83\xff\xff\xff", api.ErrLong},
		{"\x30\x84\x00\x10\x00\x01", api.ErrLong},
		{"\x30\x84\x01\x00\x00\x00", api.ErrLong},
		{"\x30\x84\x80\x00\x00\x00", api.ErrLong},
		{"\x30\x84\xff\xff\xff\xff", api.ErrLong},
	}
}

// P8.1: Cut of whole messages, with anything behind them, and of their beginnings.
func TestCut(t *testing.T) {
	is(t, "MaxPdu", api.MaxPdu, 1048576)
	cuts(t, "", 0, api.OK)
	cuts(t, "\x30\x03\x02\x01\x05", 5, api.OK)
	cuts(t, "\x30\x81\x00", 3, api.OK)
	for _, s := range messages() {
		for _, behind := range []string{"", "\x00", "\x30", "\x31\x80", s, strings.Repeat("\xff", 100)} {
			cuts(t, s+behind, len(s), api.OK)
		}
		for length := range min(len(s), 1000) {
			cuts(t, s[:length], 0, api.OK)
		}
		cuts(t, s[:len(s)-1], 0, api.OK)
	}
}

// P8.1: what is in a message plays no part.
func TestCutOfAnyBytes(t *testing.T) {
	for _, body := range []string{"\x1f\x00", "\x30\x80", "\x30\xff\xff", "\x31", "\x04\x05", strings.Repeat("\x30\x02", 63)} {
		s := "\x30" + string([]byte{byte(len(body))}) + body
		cuts(t, s, len(s), api.OK)
		cuts(t, s+"\x1f", len(s), api.OK)
		cuts(t, s[:len(s)-1], 0, api.OK)
	}
}

// P8.1: each error, as soon as it can be told.
func TestCutErrors(t *testing.T) {
	for _, row := range broken() {
		cuts(t, row.s[:len(row.s)-1], 0, api.OK)
		for _, behind := range []string{"", "\x00", "\x30\x00", strings.Repeat("\x00", 300)} {
			cuts(t, row.s+behind, 0, row.want)
		}
	}
	cuts(t, "\x31\x80", 0, api.ErrForm) // the first one
	cuts(t, "\x31\x83\xff\xff\xff", 0, api.ErrForm)
	cuts(t, "\x30\x85\xff\xff\xff\xff\xff", 0, api.ErrLen)
}

// P8.1: every first byte, and every second one.
func TestCutOfEveryFront(t *testing.T) {
	for first := range 256 {
		for second := range 256 {
			s := string([]byte{byte(first), byte(second)})
			want, wantE := 0, api.OK
			switch {
			case first != 0x30:
				wantE = api.ErrForm
			case second == 128 || second > 132:
				wantE = api.ErrLen
			case second == 0:
				want = 2
			}
			cuts(t, s, want, wantE)
			if wantE == api.OK && second < 128 {
				want = 2 + second
			}
			if wantE == api.OK && second > 128 {
				want = 2 + second - 128
			}
			cuts(t, s+strings.Repeat("\x00", 300), want, wantE)
		}
	}
}

// nexts: Next answers so, and from then on so many bytes wait.
func nexts(t *testing.T, b *feed.Buffer, want string, wantOK bool, wantE api.Errno, left int) {
	t.Helper()
	if s, ok, e := b.Next(); s != want || ok != wantOK || e != wantE {
		t.Errorf("Next is %d bytes %.40x, %v, %v, wanted %.40x, %v, %v", len(s), s, ok, e, want, wantOK, wantE)
	}
	is(t, "Len", b.Len(), left)
}

// P8.2: a buffer, its messages, and what waits.
func TestBuffer(t *testing.T) {
	b := feed.New()
	is(t, "a new one", b.Len(), 0)
	nexts(t, b, "", false, api.OK, 0)
	b.Add("0")
	is(t, "Len", b.Len(), 1)
	nexts(t, b, "", false, api.OK, 1)
	b.Add("\x01\x05\x30")
	is(t, "Len", b.Len(), 4)
	nexts(t, b, "\x30\x01\x05", true, api.OK, 1)
	nexts(t, b, "", false, api.OK, 1)
	b.Add()
	b.Add("", "")
	b.Add([]string(nil)...)
	nexts(t, b, "", false, api.OK, 1)
	b.Add("\x00\x30\x02", "", "a", "b\x30\x81", "\x01")
	is(t, "Len", b.Len(), 9)
	nexts(t, b, "\x30\x00", true, api.OK, 7)
	nexts(t, b, "\x30\x02ab", true, api.OK, 3)
	nexts(t, b, "", false, api.OK, 3)
	b.Add("\x00", "\x30\x00")
	nexts(t, b, "\x30\x81\x01\x00", true, api.OK, 2)
	nexts(t, b, "\x30\x00", true, api.OK, 0)
	nexts(t, b, "", false, api.OK, 0)
	b.Add("\x30\x00")
	nexts(t, b, "\x30\x00", true, api.OK, 0)
}

// P8.2: the longest message, and one behind it.
func TestBufferOfLongMessages(t *testing.T) {
	b := feed.New()
	for _, s := range messages() {
		b.Add(s[:len(s)/2])
		nexts(t, b, "", false, api.OK, len(s)/2)
		b.Add(s[len(s)/2:], "\x30")
		nexts(t, b, s, true, api.OK, 1)
		b.Add("\x01z")
		nexts(t, b, "\x30\x01z", true, api.OK, 0)
	}
}

// P8.2: a broken buffer stays so.
func TestBrokenBuffer(t *testing.T) {
	for _, row := range broken() {
		b := feed.New()
		b.Add("\x30\x01a", row.s[:len(row.s)-1])
		nexts(t, b, "\x30\x01a", true, api.OK, len(row.s)-1)
		nexts(t, b, "", false, api.OK, len(row.s)-1)
		b.Add(row.s[len(row.s)-1:], "\x30\x00")
		is(t, "all wait, till Next is asked", b.Len(), len(row.s)+2)
		for range 3 {
			nexts(t, b, "", false, row.want, 0)
			b.Add("\x30\x00", "\x31", "\x30\x80")
			is(t, "nothing waits", b.Len(), 0)
		}
	}
}

// P8.2: the messages ahead of bytes that are none are told.
func TestMessagesAheadOfTheError(t *testing.T) {
	b := feed.New()
	b.Add("\x30\x00\x30\x01a\x04\x00\x30\x00")
	nexts(t, b, "\x30\x00", true, api.OK, 7)
	nexts(t, b, "\x30\x01a", true, api.OK, 4)
	nexts(t, b, "", false, api.ErrForm, 0)
	nexts(t, b, "", false, api.ErrForm, 0)
}

// P8.2: a nil buffer.
func TestNilBuffer(t *testing.T) {
	var b *feed.Buffer
	b.Add()
	b.Add("\x30\x00")
	b.Add("\x31")
	nexts(t, b, "", false, api.ErrNil, 0)
	nexts(t, b, "", false, api.ErrNil, 0)
}

// P8.2: a buffer doesn't hang on another one, nor on the list of parts, which stays as it is.
func TestBuffersAreAlone(t *testing.T) {
	room := []string{"\x30\x01", "a", "spare", "room"}
	a, b := feed.New(), feed.New()
	a.Add(room[:2]...)
	b.Add("\x31")
	nexts(t, b, "", false, api.ErrForm, 0)
	is(t, "the list", slices.Equal(room, []string{"\x30\x01", "a", "spare", "room"}), true)
	room[1] = "b"
	nexts(t, a, "\x30\x01a", true, api.OK, 0)
	nexts(t, feed.New(), "", false, api.OK, 0)
}

// drain answers the messages that Next answers, each in front of a bar, and the error.
func drain(b *feed.Buffer) (string, api.Errno) {
	var out strings.Builder
	for {
		s, ok, e := b.Next()
		if !ok {
			return out.String(), e
		}
		out.WriteString(s + "|")
	}
}

// streamOf answers some messages, and perhaps bytes that are none.
func streamOf(r *rand.Rand) string {
	var out strings.Builder
	for range r.Intn(6) {
		out.WriteString(message(r.Intn(5), []int{0, 1, 2, 7, 127}[r.Intn(5)]))
	}
	switch r.Intn(4) {
	case 0:
		bad := broken()
		out.WriteString(bad[r.Intn(len(bad))].s + message(0, r.Intn(5)))
	case 1:
		whole := message(r.Intn(5), 90)
		out.WriteString(whole[:r.Intn(len(whole))])
	}
	return out.String()
}

// P8.3: in what parts bytes come makes no difference, however often Next is asked between.
func TestPartsMakeNoDifference(t *testing.T) {
	r := rand.New(rand.NewSource(8))
	for range 2000 {
		s := streamOf(r)
		once := feed.New()
		once.Add(s)
		want, wantE := drain(once)
		is(t, "the stream", want, plain(s))
		b, got, e := feed.New(), "", api.OK
		for left := s; left != ""; {
			n := 1 + r.Intn(min(len(left), 1+r.Intn(200)))
			b.Add(left[:n/2], "", left[n/2:n])
			left = left[n:]
			for range r.Intn(3) {
				next, ok, _ := b.Next()
				if ok {
					got += next + "|"
				}
			}
		}
		rest, e := drain(b)
		is(t, "the messages", got+rest, want)
		is(t, "the error", e, wantE)
		is(t, "Len", b.Len(), once.Len())
	}
}

// plain answers the messages of a stream, each in front of a bar, as Cut tells them.
func plain(s string) string {
	var out strings.Builder
	for {
		n, e := feed.Cut(s)
		if n == 0 || e != api.OK {
			return out.String()
		}
		out.WriteString(s[:n] + "|")
		s = s[n:]
	}
}

// P8.3: a stream that is cut at each place, and one that comes byte by byte.
func TestEveryPlace(t *testing.T) {
	for _, row := range broken() {
		s := message(0, 3) + message(2, 5) + message(4, 0) + message(1, 9) + row.s + message(0, 1)
		once := feed.New()
		once.Add(s)
		want, wantE := drain(once)
		is(t, "the error", wantE, row.want)
		for at := range len(s) + 1 {
			b := feed.New()
			b.Add(s[:at])
			first, _ := drain(b)
			b.Add(s[at:])
			second, e := drain(b)
			is(t, "the messages", first+second, want)
			is(t, "the error", e, wantE)
		}
		b, got := feed.New(), ""
		for at := range len(s) {
			b.Add(s[at : at+1])
			more, _ := drain(b)
			got += more
		}
		is(t, "byte by byte", got, want)
		nexts(t, b, "", false, row.want, 0)
	}
}

// P8.3: very many bytes, one by one, and very many messages at once.
func TestManyBytes(t *testing.T) {
	s := message(3, api.MaxPdu)
	b := feed.New()
	for at := range len(s) - 1 {
		b.Add(s[at : at+1])
		_, ok, e := b.Next()
		if ok || e != api.OK {
			t.Fatalf("behind %d bytes: %v, %v", at+1, ok, e)
		}
	}
	b.Add(s[len(s)-1:])
	nexts(t, b, s, true, api.OK, 0)
	const count = 500000
	b.Add(strings.Repeat("\x30\x00", count), "\x30")
	for range count {
		s, ok, e := b.Next()
		if s != "\x30\x00" || !ok || e != api.OK {
			t.Fatalf("%x, %v, %v", s, ok, e)
		}
	}
	nexts(t, b, "", false, api.OK, 1)
}

// P1: Cut and the buffers end, whatever bytes come.
func TestAllCallsEnd(t *testing.T) {
	r := rand.New(rand.NewSource(9))
	for range 20000 {
		bytes := make([]byte, r.Intn(30))
		r.Read(bytes)
		if len(bytes) > 1 && r.Intn(3) > 0 {
			bytes[0], bytes[1] = 0x30, byte(120+r.Intn(16))
		}
		s := string(bytes)
		n, e := feed.Cut(s)
		again, still := feed.Cut(s)
		if n != again || e != still || n < 0 || n > len(s) || e != api.OK && n != 0 {
			t.Errorf("Cut(%x) is %d, %v, then %d, %v", s, n, e, again, still)
		}
		b := feed.New()
		b.Add(s, s)
		if _, e := drain(b); e != api.OK && b.Len() != 0 {
			t.Errorf("%d bytes wait in a broken buffer", b.Len())
		}
	}
}
