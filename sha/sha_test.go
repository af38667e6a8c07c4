package sha_test

import (
	"crypto/sha256"
	"encoding/hex"
	"math"
	"slices"
	"strings"
	"sync"
	"testing"

	"castellan/sha"
)

// other is SHA-256 as another program makes it.
func other(s string) string {
	sum := sha256.Sum256([]byte(s))
	return string(sum[:])
}

// bytesOf answers so many bytes, of which no two blocks are alike.
func bytesOf(length int) string {
	out := make([]byte, length)
	for i := range out {
		out[i] = byte(i*i + i>>6 + 7)
	}
	return string(out)
}

// digits answers a digest's digits.
func digits(s string) string { return hex.EncodeToString([]byte(s)) }

// same: two digests are one.
func same(t *testing.T, what, got, want string) {
	t.Helper()
	if got != want {
		t.Errorf("%s: %s, wanted %s", what, digits(got), digits(want))
	}
}

// P3.1: Sum256, held against what FIPS 180-4 and its examples tell.
func TestSum256(t *testing.T) {
	rows := []struct{ s, want string }{
		{"", "e3b0c44298fc1c149afbf4c8996fb92427ae41e4649b934ca495991b7852b855"},
		{"a", "ca978112ca1bbdcafac231b39a23dc4da786eff8147c4e72b9807785afee48bb"},
		{"abc", "ba7816bf8f01cfea414140de5dae2223b00361a396177a9cb410ff61f20015ad"},
		{"\xbd", "68325720aabd7c82f30f554b313d0570c95accbb7dc4b5aae11204c08ffe732b"},
		{"\x00\x00\x00\x00", "df3f619804a92fdb4057192dc43dd748ea778adc52bc498ce80524c014b81119"},
		{strings.Repeat("\x00", 55), "02779466cdec163811d078815c633f21901413081449002f24aa3e80f0b88ef7"},
		{strings.Repeat("\x00", 56), "d4817aa5497628e7c77e6b606107042bbba3130888c5f47a375e6179be789fbb"},
		{strings.Repeat("\x00", 57), "65a16cb7861335d5ace3c60718b5052e44660726da4cd13bb745381b235a1785"},
		{strings.Repeat("\x00", 64), "f5a5fd42d16a20302798ef6ed309979b43003d2320d9f0e8ea9831a92759fb4b"},
		{"abcdbcdecdefdefgefghfghighijhijkijkljklmklmnlmnomnopnopq", "248d6a61d20638b8e5c026930c3e6039a33ce45964ff2167f6ecedd419db06c1"},
		{"abcdefghbcdefghicdefghijdefghijkefghijklfghijklmghijklmnhijklmnoijklmnopjklmnopqklmnopqrlmnopqrsmnopqrstnopqrstu", "cf5b16a778af8380036ce59e7b0492370b249b11e8f07a51afac45037afee9d1"},
		{strings.Repeat("a", 1000000), "cdc76e5c9914fb9281a1c7e284d73e67f1809a48a497200e046d39ccc7112cd0"},
	}
	for _, row := range rows {
		if got := digits(sha.Sum256(row.s)); got != row.want {
			t.Errorf("Sum256 of %d bytes is %s, wanted %s", len(row.s), got, row.want)
		}
	}
}

// P3.1: of every length about the edges of blocks, and of every byte.
func TestSum256OfEveryLength(t *testing.T) {
	for length := range 400 {
		s := bytesOf(length)
		same(t, "Sum256", sha.Sum256(s), other(s))
	}
	for c := range 256 {
		s := string([]byte{byte(c)})
		same(t, "Sum256 of a byte", sha.Sum256(s), other(s))
		s = strings.Repeat(s, 64)
		same(t, "Sum256 of a block of a byte", sha.Sum256(s), other(s))
	}
	// The number of bits needs two, three and four bytes here.
	for _, length := range []int{1 << 13, 1<<13 - 1, 1 << 16, 1 << 21, 1<<21 + 55, 1<<21 + 56} {
		s := bytesOf(length)
		same(t, "Sum256 of many bytes", sha.Sum256(s), other(s))
	}
}

// P3.1: no parts, and empty ones, are no bytes.
func TestSum256OfNoParts(t *testing.T) {
	want := other("")
	same(t, "no parts", sha.Sum256(), want)
	same(t, "nil parts", sha.Sum256([]string(nil)...), want)
	same(t, "an empty part", sha.Sum256(""), want)
	same(t, "empty parts", sha.Sum256("", "", ""), want)
	same(t, "empty parts between others", sha.Sum256("", "a", "", "bc", ""), other("abc"))
	if sha.Sum256("ab", "c") == sha.Sum256("c", "ab") {
		t.Error("the order of the parts makes no difference")
	}
}

// P3.2: a new state, written to and summed again and again.
func TestState(t *testing.T) {
	s := sha.New()
	same(t, "a new state", s.Sum(), other(""))
	if got := s.Len(); got != 0 {
		t.Errorf("a new state has %d bytes", got)
	}
	written := ""
	for i := range 200 {
		part, next := bytesOf(i), bytesOf(i%7)
		s.Write(part, next)
		written += part + next
		same(t, "what was written", s.Sum(), other(written))
		if got := s.Len(); got != uint64(len(written)) {
			t.Errorf("Len is %d, wanted %d", got, len(written))
		}
	}
}

// P3.2: nothing that is written leaves a state as it is.
func TestWriteOfNothing(t *testing.T) {
	s := sha.New()
	for _, before := range []string{"", "abc", bytesOf(61), bytesOf(64)} {
		s.Write(before)
		sum, length := s.Sum(), s.Len()
		s.Write()
		s.Write([]string(nil)...)
		s.Write("")
		s.Write("", "")
		same(t, "nothing was written", s.Sum(), sum)
		if got := s.Len(); got != length {
			t.Errorf("Len behind nothing is %d, wanted %d", got, length)
		}
	}
}

// P3.2: a nil state.
func TestNilState(t *testing.T) {
	var s *sha.State
	s.Write()
	s.Write("a", "b")
	s.Write(bytesOf(1000))
	if got := s.Sum(); got != "" {
		t.Errorf("Sum of a nil state is %q", got)
	}
	if got := s.Len(); got != 0 {
		t.Errorf("Len of a nil state is %d", got)
	}
}

// P3.2: Len counts bytes, whatever they are.
func TestLen(t *testing.T) {
	s := sha.New()
	var want uint64
	for _, part := range []string{"é", "\x00", "\xff\xfe", strings.Repeat("a", 63), bytesOf(64), bytesOf(65), bytesOf(100000)} {
		s.Write(part, "x")
		want += uint64(len(part)) + 1
		if got := s.Len(); got != want {
			t.Errorf("Len is %d, wanted %d", got, want)
		}
	}
}

// P3.2: what is written to one state doesn't come to another one.
func TestStatesAreAlone(t *testing.T) {
	a, b := sha.New(), sha.New()
	a.Write("a")
	b.Write("bb")
	a.Write(bytesOf(70))
	b.Write(bytesOf(130))
	same(t, "one state", a.Sum(), other("a"+bytesOf(70)))
	same(t, "another state", b.Sum(), other("bb"+bytesOf(130)))
	same(t, "a state made behind them", sha.New().Sum(), other(""))
	if a.Len() != 71 || b.Len() != 132 {
		t.Errorf("Len is %d and %d", a.Len(), b.Len())
	}
}

// P3.3: a message cut at every two places.
func TestPartsMakeNoDifference(t *testing.T) {
	s := bytesOf(150)
	want := other(s)
	for i := range len(s) + 1 {
		for j := i; j <= len(s); j++ {
			same(t, "Sum256 of three parts", sha.Sum256(s[:i], s[i:j], s[j:]), want)
			state := sha.New()
			state.Write(s[:i])
			state.Write(s[i:j], s[j:])
			same(t, "three parts, written", state.Sum(), want)
		}
	}
}

// P3.3: a message in parts of one size.
func TestPartsOfOneSize(t *testing.T) {
	s := bytesOf(1000)
	want := other(s)
	for size := 1; size <= 200; size++ {
		var parts []string
		for from := 0; from < len(s); from += size {
			parts = append(parts, s[from:min(from+size, len(s))])
		}
		same(t, "Sum256 of parts", sha.Sum256(parts...), want)
		all, one := sha.New(), sha.New()
		all.Write(parts...)
		for _, part := range parts {
			one.Write(part)
		}
		same(t, "parts, written at once", all.Sum(), want)
		same(t, "parts, written one by one", one.Sum(), want)
	}
}

// P3.3: Sum changes nothing, at whatever place it is asked.
func TestSumChangesNothing(t *testing.T) {
	for before := range 200 {
		front, behind := bytesOf(before), bytesOf(77)
		s := sha.New()
		s.Write(front)
		for range 3 {
			same(t, "Sum, again", s.Sum(), other(front))
			if got := s.Len(); got != uint64(before) {
				t.Errorf("Len behind Sum is %d, wanted %d", got, before)
			}
		}
		s.Write(behind)
		same(t, "written behind Sum", s.Sum(), other(front+behind))
	}
}

// P3.3: nor does it where several ask at once.
func TestSumsAtOnce(t *testing.T) {
	s := sha.New()
	s.Write(bytesOf(100))
	sums := make([]string, 8)
	var all sync.WaitGroup
	for i := range sums {
		all.Go(func() {
			for range 200 {
				sums[i] = s.Sum()
			}
		})
	}
	all.Wait()
	for _, sum := range sums {
		same(t, "one of several sums", sum, other(bytesOf(100)))
	}
}

// Memory: the list of parts, its spare room included, stays as it is, and isn't kept.
func TestPartsStayTheCallers(t *testing.T) {
	room := []string{"a", "b", "spare", "room"}
	parts := room[:2]
	s := sha.New()
	s.Write(parts...)
	same(t, "Sum256 of a list with room", sha.Sum256(parts...), other("ab"))
	if want := []string{"a", "b", "spare", "room"}; !slices.Equal(room, want) {
		t.Errorf("the list became %q", room)
	}
	parts[0] = "c"
	same(t, "the list was kept", s.Sum(), other("ab"))
}

// P1: every call ends, and answers the same again.
func TestAllCallsEnd(t *testing.T) {
	many := make([]string, 100000)
	for i := range many {
		many[i] = bytesOf(i % 3)
	}
	lists := [][]string{nil, {}, {""}, {"\x80"}, {"\xff\x00"}, many, {bytesOf(3 << 20)}, slices.Repeat([]string{""}, 100000)}
	for _, parts := range lists {
		want := other(strings.Join(parts, ""))
		same(t, "Sum256", sha.Sum256(parts...), want)
		same(t, "Sum256 again", sha.Sum256(parts...), want)
		s := sha.New()
		s.Write(parts...)
		same(t, "written", s.Sum(), want)
		if len(s.Sum()) != 32 || s.Len() >= math.MaxInt32 {
			t.Errorf("a sum of %d bytes, of %d", len(s.Sum()), s.Len())
		}
	}
}
