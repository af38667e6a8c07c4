package crc_test

import (
	"hash/crc32"
	"math"
	"math/rand"
	"slices"
	"strings"
	"testing"

	"castellan/crc"
)

// text answers so many bytes, the same ones of the same source.
func text(r *rand.Rand, length int) string {
	out := make([]byte, length)
	for i := range out {
		out[i] = byte(r.Intn(256))
	}
	return string(out)
}

// cut answers s in that many parts, empty ones among them.
func cut(r *rand.Rand, s string, parts int) []string {
	var out []string
	for range parts - 1 {
		at := r.Intn(len(s) + 1)
		out = append(out, s[:at])
		s = s[at:]
	}
	return append(out, s)
}

// P2.1: sums that are known.
func TestSum(t *testing.T) {
	rows := []struct {
		s    string
		want uint32
	}{
		{"", 0},
		{"\x00", 0xD202EF8D},
		{"\xff", 0xFF000000},
		{"a", 0xE8B7BE43},
		{"abc", 0x352441C2},
		{"123456789", 0xCBF43926},
		{"\x00\x00\x00\x00", 0x2144DF1C},
		{"\xff\xff\xff\xff", 0xFFFFFFFF},
		{strings.Repeat("\x00", 32), 0x190A55AD},
		{strings.Repeat("\xff", 32), 0xFF6CAB0B},
		{"The quick brown fox jumps over the lazy dog", 0x414FA339},
	}
	for _, row := range rows {
		if got := crc.Sum(row.s); got != row.want {
			t.Errorf("Sum(%q) is %08X, wanted %08X", row.s, got, row.want)
		}
	}
}

// P2.1: sums of all bytes, alone and behind another one, and of long texts, held against another maker of such sums.
func TestSumOfAll(t *testing.T) {
	check := func(s string) {
		if got, want := crc.Sum(s), crc32.ChecksumIEEE([]byte(s)); got != want {
			t.Errorf("Sum of %d bytes is %08X, wanted %08X", len(s), got, want)
		}
	}
	for a := range 256 {
		check(string([]byte{byte(a)}))
		for b := range 256 {
			check(string([]byte{byte(a), byte(b)}))
		}
	}
	r := rand.New(rand.NewSource(1))
	for length := range 300 {
		check(text(r, length))
	}
	check(text(r, 1<<20+1))
}

// P2.1: parts stand one behind the other; none of them, and empty ones, are nothing.
func TestSumOfParts(t *testing.T) {
	rows := []struct {
		parts []string
		want  uint32
	}{
		{nil, 0},
		{[]string{}, 0},
		{[]string{""}, 0},
		{[]string{"", "", ""}, 0},
		{[]string{"1234", "56789"}, 0xCBF43926},
		{[]string{"1234", "", "56789"}, 0xCBF43926},
		{[]string{"", "123456789"}, 0xCBF43926},
		{[]string{"123456789", "", ""}, 0xCBF43926},
		{[]string{"1", "2", "3", "4", "5", "6", "7", "8", "9"}, 0xCBF43926},
		{[]string{"56789", "1234"}, crc32.ChecksumIEEE([]byte("567891234"))},
	}
	for _, row := range rows {
		if got := crc.Sum(row.parts...); got != row.want {
			t.Errorf("Sum(%q) is %08X, wanted %08X", row.parts, got, row.want)
		}
	}
	if crc.Sum() != 0 {
		t.Errorf("Sum of no parts is %08X", crc.Sum())
	}
	r := rand.New(rand.NewSource(2))
	for range 1000 {
		s := text(r, r.Intn(60))
		parts := cut(r, s, 1+r.Intn(8))
		if got, want := crc.Sum(parts...), crc32.ChecksumIEEE([]byte(s)); got != want {
			t.Errorf("Sum(%q) is %08X, wanted %08X", parts, got, want)
		}
	}
}

// P2.2: a sum is gone on with.
func TestAdd(t *testing.T) {
	r := rand.New(rand.NewSource(3))
	for range 1000 {
		first, rest := text(r, r.Intn(40)), text(r, r.Intn(40))
		parts := cut(r, rest, 1+r.Intn(5))
		if got, want := crc.Add(crc.Sum(first), parts...), crc32.ChecksumIEEE([]byte(first+rest)); got != want {
			t.Errorf("Add(Sum(%q), %q) is %08X, wanted %08X", first, parts, got, want)
		}
		if got, want := crc.Add(0, parts...), crc.Sum(parts...); got != want {
			t.Errorf("Add(0, %q) is %08X, Sum %08X", parts, got, want)
		}
		steps := uint32(0)
		for _, part := range parts {
			steps = crc.Add(steps, part)
		}
		if want := crc.Sum(rest); steps != want {
			t.Errorf("Add of one part after the other of %q is %08X, wanted %08X", parts, steps, want)
		}
	}
}

// P2.2: behind whatever sum no bytes are nothing, and bytes what they are behind the texts of that sum.
func TestAddToAnySum(t *testing.T) {
	sums := []uint32{0, 1, 1 << 31, 0xCBF43926, 0xEDB88320, math.MaxUint32 - 1, math.MaxUint32}
	r := rand.New(rand.NewSource(4))
	for range 1000 {
		sums = append(sums, r.Uint32())
	}
	for _, sum := range sums {
		if crc.Add(sum) != sum || crc.Add(sum, "") != sum || crc.Add(sum, "", "") != sum || crc.Add(sum, []string(nil)...) != sum {
			t.Errorf("Add(%08X) without bytes is another sum", sum)
		}
		s := text(r, 1+r.Intn(9))
		if got, want := crc.Add(sum, s), crc32.Update(sum, crc32.IEEETable, []byte(s)); got != want {
			t.Errorf("Add(%08X, %q) is %08X, wanted %08X", sum, s, got, want)
		}
	}
}

// turned answers s with the four bytes of bits put onto those from at on.
func turned(s string, at int, bits uint32) string {
	out := []byte(s)
	for i := range 4 {
		out[at+i] ^= byte(bits >> (8 * i))
	}
	return string(out)
}

// P2.3: a difference within four bytes in a row is seen.
func TestDifferencesAreSeen(t *testing.T) {
	r := rand.New(rand.NewSource(5))
	check := func(s string, at int, bits uint32) {
		if bits != 0 && crc.Sum(turned(s, at, bits)) == crc.Sum(s) {
			t.Errorf("Sum of %q doesn't see the bits %08X from %d on", s, bits, at)
		}
	}
	s := text(r, 12)
	for a := range 32 {
		for b := range 32 {
			for at := range len(s) - 3 {
				check(s, at, 1<<a)
				check(s, at, 1<<a|1<<b)
				check(s, at, math.MaxUint32<<a>>b)
			}
		}
	}
	for _, bits := range []uint32{0xEDB88320, 0x04C11DB7, 0xDB710641, math.MaxUint32} {
		check(s, 0, bits)
		check(s, len(s)-4, bits)
	}
	for range 2000 {
		s := text(r, 4+r.Intn(200))
		check(s, r.Intn(len(s)-3), r.Uint32())
	}
}

// P2.3: all texts of two bytes have sums of their own.
func TestShortTextsDiffer(t *testing.T) {
	seen := map[uint32]bool{}
	for n := range 1 << 16 {
		seen[crc.Sum("ahead", string([]byte{byte(n >> 8), byte(n)}), "behind")] = true
	}
	if len(seen) != 1<<16 {
		t.Errorf("%d texts have %d sums", 1<<16, len(seen))
	}
}

// P1: every call ends and none panics; the parts stay as they were, spare room included; and nothing is kept from call to call.
func TestAllCallsEnd(t *testing.T) {
	room := []string{"1234", "", "56789", "spare", "room"}
	was := slices.Clone(room)
	for length := range len(room) + 1 {
		parts := room[:length]
		sum := crc.Sum(parts...)
		if crc.Sum(parts...) != sum || crc.Add(0, parts...) != sum {
			t.Errorf("the second Sum(%q) is another one", parts)
		}
		for _, from := range []uint32{0, 1, 1 << 31, math.MaxUint32} {
			if crc.Add(from, parts...) != crc.Add(from, parts...) {
				t.Errorf("the second Add(%08X, %q) is another one", from, parts)
			}
		}
	}
	if !slices.Equal(room, was) {
		t.Errorf("the parts are %q now, they were %q", room, was)
	}
	many := make([]string, 100000)
	if crc.Sum(many...) != 0 {
		t.Error("Sum of many empty parts isn't 0")
	}
	for i := range many {
		many[i] = "a"
	}
	if got, want := crc.Sum(many...), crc.Sum(strings.Repeat("a", len(many))); got != want {
		t.Errorf("Sum of many parts is %08X, wanted %08X", got, want)
	}
}
