package octet_test

import (
	"math"
	"strings"
	"testing"

	"castellan/octet"
)

// numbers are such as have their edges at each number of bytes.
func numbers() []uint64 {
	list := []uint64{0, 1, 258, 0x0102030405060708, 0xF1E2D3C4B5A69788, math.MaxUint64}
	for bits := range 64 {
		list = append(list, 1<<bits-1, 1<<bits, 1<<bits+1)
	}
	return list
}

// badSizes are no sizes of a number.
func badSizes() []int {
	return []int{0, 9, 10, -1, -8, 64, 256 + 4, 1<<32 + 4, math.MaxInt, math.MaxInt - 7, math.MinInt, math.MinInt + 8}
}

// allBytes is every byte once.
func allBytes() string {
	out := make([]byte, 256)
	for i := range out {
		out[i] = byte(i)
	}
	return string(out)
}

// words calls with every text of the letters up to a length.
func words(letters string, most int, with func(string)) {
	with("")
	if most == 0 {
		return
	}
	for i := range len(letters) {
		words(letters, most-1, func(rest string) { with(letters[i:i+1] + rest) })
	}
}

// P1.1: Put.
func TestPut(t *testing.T) {
	rows := []struct {
		n    uint64
		size int
		want string
	}{
		{0, 1, "\x00"},
		{255, 1, "\xff"},
		{256, 1, "\x00"},
		{258, 1, "\x02"},
		{258, 2, "\x01\x02"},
		{258, 3, "\x00\x01\x02"},
		{0x0102030405060708, 4, "\x05\x06\x07\x08"},
		{0x0102030405060708, 5, "\x04\x05\x06\x07\x08"},
		{0x0102030405060708, 6, "\x03\x04\x05\x06\x07\x08"},
		{0x0102030405060708, 7, "\x02\x03\x04\x05\x06\x07\x08"},
		{0x0102030405060708, 8, "\x01\x02\x03\x04\x05\x06\x07\x08"},
		{0, 8, "\x00\x00\x00\x00\x00\x00\x00\x00"},
		{math.MaxUint64, 8, "\xff\xff\xff\xff\xff\xff\xff\xff"},
	}
	for _, row := range rows {
		if got := octet.Put(row.n, row.size); got != row.want {
			t.Errorf("Put(%d, %d) is %x, wanted %x", row.n, row.size, got, row.want)
		}
	}
}

// P1.1: Put, of no size.
func TestPutOfNoSize(t *testing.T) {
	for _, size := range badSizes() {
		for _, n := range numbers() {
			if got := octet.Put(n, size); got != "" {
				t.Errorf("Put(%d, %d) is %x, wanted nothing", n, size, got)
			}
		}
	}
}

// P1.1: Get.
func TestGet(t *testing.T) {
	const s = "\x01\x02\x03\x04\x05\x06\x07\x08\xf9\xfa"
	rows := []struct {
		at, size int
		want     uint64
	}{
		{0, 1, 1},
		{9, 1, 0xfa},
		{0, 2, 0x0102},
		{8, 2, 0xf9fa},
		{7, 3, 0x08f9fa},
		{1, 4, 0x02030405},
		{5, 5, 0x060708f9fa},
		{0, 6, 0x010203040506},
		{3, 7, 0x04050607_08f9fa},
		{0, 8, 0x0102030405060708},
		{2, 8, 0x030405060708f9fa},
	}
	for _, row := range rows {
		if got, ok := octet.Get(s, row.at, row.size); got != row.want || !ok {
			t.Errorf("Get(s, %d, %d) is %x, %v, wanted %x, true", row.at, row.size, got, ok, row.want)
		}
	}
	if got, ok := octet.Get("\xff\xff\xff\xff\xff\xff\xff\xff", 0, 8); got != math.MaxUint64 || !ok {
		t.Errorf("Get of eight bytes 255 is %x, %v", got, ok)
	}
}

// nothingThere: Get answers that there is no number.
func nothingThere(t *testing.T, s string, at, size int) {
	t.Helper()
	if got, ok := octet.Get(s, at, size); got != 0 || ok {
		t.Errorf("Get(%q, %d, %d) is %d, %v, wanted 0, false", s, at, size, got, ok)
	}
}

// P1.1: Get, where nothing can be got.
func TestGetNothing(t *testing.T) {
	texts := []string{"", "a", "12345678", "123456789", "1234567890123456"}
	for _, s := range texts {
		for _, size := range badSizes() {
			for _, at := range []int{0, 1, -1, len(s), math.MaxInt, math.MinInt} {
				nothingThere(t, s, at, size)
			}
		}
		for size := 1; size <= 8; size++ {
			for _, at := range []int{-1, -2, -size, -8, math.MinInt, math.MinInt + 8} {
				nothingThere(t, s, at, size)
			}
			for _, at := range []int{len(s) - size + 1, len(s), len(s) + 1, 1 << 32, math.MaxInt - 8, math.MaxInt - size + 1, math.MaxInt} {
				nothingThere(t, s, at, size)
			}
		}
	}
}

// P1.1: at the end there is a number, one byte further there is none.
func TestGetAtTheEnd(t *testing.T) {
	for length := range 20 {
		s := strings.Repeat("\x01", length)
		for size := 1; size <= 8; size++ {
			for at := -3; at < length+3; at++ {
				want := 0 <= at && at+size <= length
				if _, ok := octet.Get(s, at, size); ok != want {
					t.Errorf("Get of %d bytes, %d, %d: %v, wanted %v", length, at, size, ok, want)
				}
			}
		}
	}
}

// P1.2: Hex.
func TestHex(t *testing.T) {
	rows := []struct{ s, want string }{
		{"", ""},
		{"\x00\xff", "00ff"},
		{"\x01\x23\x45\x67\x89\xab\xcd\xef", "0123456789abcdef"},
		{"\x10\x0a\xa0", "100aa0"},
		{"az AZ", "617a20415a"},
	}
	for _, row := range rows {
		if got := octet.Hex(row.s); got != row.want {
			t.Errorf("Hex(%q) is %q, wanted %q", row.s, got, row.want)
		}
	}
	for c := range 256 {
		const digits = "0123456789abcdef"
		want := digits[c/16:c/16+1] + digits[c%16:c%16+1]
		if got := octet.Hex(string([]byte{byte(c)})); got != want {
			t.Errorf("Hex of the byte %d is %q, wanted %q", c, got, want)
		}
	}
}

// P1.2: Unhex.
func TestUnhex(t *testing.T) {
	rows := []struct {
		s, want string
		ok      bool
	}{
		{"", "", true},
		{"00ff", "\x00\xff", true},
		{"00FF", "\x00\xff", true},
		{"0fF0aBCd", "\x0f\xf0\xab\xcd", true},
		{"0123456789abcdefABCDEF", "\x01\x23\x45\x67\x89\xab\xcd\xef\xab\xcd\xef", true},
		{"0", "", false},
		{"f", "", false},
		{"00f", "", false},
		{"00112", "", false},
		{"0g", "", false},
		{"g0", "", false},
		{"00zz", "", false},
		{"zz00", "", false},
		{" 00", "", false},
		{"00 ", "", false},
		{"0 0 ", "", false},
		{"0x00", "", false},
		{"-1", "", false},
		{"+1", "", false},
		{"\xff\xff", "", false},
		{"\x00\x00", "", false},
	}
	for _, row := range rows {
		if got, ok := octet.Unhex(row.s); got != row.want || ok != row.ok {
			t.Errorf("Unhex(%q) is %x, %v, wanted %x, %v", row.s, got, ok, row.want, row.ok)
		}
	}
}

// P1.2: Unhex, of every two bytes.
func TestUnhexOfTwoBytes(t *testing.T) {
	const digits = "0123456789abcdef"
	place := func(c int) int { return strings.IndexByte(digits, strings.ToLower(string(rune(c)))[0]) }
	for a := range 256 {
		for b := range 256 {
			want, wanted := "", false
			if a < 128 && b < 128 && place(a) >= 0 && place(b) >= 0 {
				want, wanted = string([]byte{byte(16*place(a) + place(b))}), true
			}
			s := string([]byte{byte(a), byte(b)})
			if got, ok := octet.Unhex(s); got != want || ok != wanted {
				t.Errorf("Unhex(%q) is %x, %v, wanted %x, %v", s, got, ok, want, wanted)
			}
		}
	}
}

// P1.3: Fold.
func TestFold(t *testing.T) {
	rows := []struct{ s, want string }{
		{"", ""},
		{"Az É", "az É"},
		{"ABCDEFGHIJKLMNOPQRSTUVWXYZ", "abcdefghijklmnopqrstuvwxyz"},
		{"abcdefghijklmnopqrstuvwxyz", "abcdefghijklmnopqrstuvwxyz"},
		{"@[`{", "@[`{"},
		{"  A  b ", "  a  b "},
		{"\tA\x00B\r\n", "\ta\x00b\r\n"},
		{"\u212A\u0130\xC1\xff\xfe", "\u212A\u0130\xC1\xff\xfe"}, // capital letters of other alphabets, and no text at all
	}
	for _, row := range rows {
		if got := octet.Fold(row.s); got != row.want {
			t.Errorf("Fold(%q) is %q, wanted %q", row.s, got, row.want)
		}
	}
	for c := range 256 {
		want := byte(c)
		if 65 <= c && c <= 90 {
			want = byte(c + 32)
		}
		if got := octet.Fold(string([]byte{byte(c)})); got != string([]byte{want}) {
			t.Errorf("Fold of the byte %d is %q, wanted %q", c, got, string([]byte{want}))
		}
	}
}

// P1.3: Prep.
func TestPrep(t *testing.T) {
	rows := []struct{ s, want string }{
		{"", ""},
		{" ", ""},
		{"  ", ""},
		{"       ", ""},
		{"a", "a"},
		{" a", "a"},
		{"a ", "a"},
		{"   A   ", "a"},
		{"  A  b ", "a b"},
		{"A b", "a b"},
		{"A     B  C", "a b c"},
		{"\tA\t", "\ta\t"},
		{" \t a \n ", "\t a \n"},
		{"\u00A0A\u00A0", "\u00A0a\u00A0"}, // a blank of another kind is none
		{"\x00 \x00", "\x00 \x00"},
		{" \xff  \xa0\x85 ", "\xff \xa0\x85"},
		{"É  É", "É É"},
	}
	for _, row := range rows {
		if got := octet.Prep(row.s); got != row.want {
			t.Errorf("Prep(%q) is %q, wanted %q", row.s, got, row.want)
		}
	}
	for c := range 256 {
		one := string([]byte{byte(c)})
		want := octet.Fold(one)
		if c == 32 {
			want = ""
		}
		if got := octet.Prep("  " + one + "  "); got != want {
			t.Errorf("Prep of the byte %d between blanks is %q, wanted %q", c, got, want)
		}
	}
}

// plainPrep is Prep's words said in another way.
func plainPrep(s string) string {
	var kept []string
	for _, part := range strings.Split(octet.Fold(s), " ") {
		if part != "" {
			kept = append(kept, part)
		}
	}
	return strings.Join(kept, " ")
}

// P1.3: Prep, of all short texts of few letters.
func TestPrepOfShortTexts(t *testing.T) {
	words(" Ab\x80", 7, func(s string) {
		if got, want := octet.Prep(s), plainPrep(s); got != want {
			t.Errorf("Prep(%q) is %q, wanted %q", s, got, want)
		}
	})
}

// P1.4: what Put puts Get gets.
func TestGetOfPut(t *testing.T) {
	for _, n := range numbers() {
		for size := 1; size <= 8; size++ {
			want := n << (64 - 8*size) >> (64 - 8*size)
			s := octet.Put(n, size)
			if len(s) != size {
				t.Errorf("Put(%d, %d) has %d bytes", n, size, len(s))
			}
			if got, ok := octet.Get(s, 0, size); got != want || !ok {
				t.Errorf("Get of Put(%d, %d) is %d, %v, wanted %d", n, size, got, ok, want)
			}
			if got, ok := octet.Get("\xee"+s+"\xee", 1, size); got != want || !ok {
				t.Errorf("Get of Put(%d, %d) between others is %d, %v, wanted %d", n, size, got, ok, want)
			}
		}
	}
}

// P1.4: Unhex(Hex(s)) is s.
func TestUnhexOfHex(t *testing.T) {
	texts := []string{"", "\x00", "a", "Az É", allBytes(), strings.Repeat(allBytes(), 300)}
	words("\x00\x0f\xf0\xffA", 4, func(s string) { texts = append(texts, s) })
	for _, s := range texts {
		if got, ok := octet.Unhex(octet.Hex(s)); got != s || !ok {
			t.Errorf("Unhex(Hex(%q)) is %q, %v", s, got, ok)
		}
		if got, ok := octet.Unhex(strings.ToUpper(octet.Hex(s))); got != s || !ok {
			t.Errorf("Unhex of the capital digits of %q is %q, %v", s, got, ok)
		}
	}
}

// P1.4: Prep(Prep(s)) is Prep(s).
func TestPrepOfPrep(t *testing.T) {
	check := func(s string) {
		once := octet.Prep(s)
		if twice := octet.Prep(once); twice != once {
			t.Errorf("Prep(Prep(%q)) is %q, Prep is %q", s, twice, once)
		}
	}
	words(" A\t\xc3", 6, check)
	check(allBytes())
	check(strings.Repeat(" A  ", 100000))
	check(strings.Repeat(" ", 100000))
}

// P1: every call ends and none panics; and what it answers doesn't hang on what was called before.
func TestAllCallsEnd(t *testing.T) {
	texts := []string{"", " ", "a", "\x00", "\xff", "abcdefghi", allBytes(), strings.Repeat(allBytes(), 4000)}
	ends := []int{math.MinInt, math.MinInt + 1, math.MinInt32, -9, -8, -1, 0, 1, 7, 8, 9, 255, 256, math.MaxInt32, math.MaxInt - 8, math.MaxInt - 1, math.MaxInt}
	for _, s := range texts {
		bytes, isHex := octet.Unhex(s)
		again, still := octet.Unhex(s)
		if bytes != again || isHex != still || octet.Hex(s) != octet.Hex(s) || octet.Fold(s) != octet.Fold(s) || octet.Prep(s) != octet.Prep(s) {
			t.Errorf("the second answer of %d bytes is another one", len(s))
		}
		for _, at := range ends {
			for _, size := range ends {
				n, ok := octet.Get(s, at, size)
				if m, still := octet.Get(s, at, size); m != n || ok != still {
					t.Errorf("the second Get of %d bytes, %d, %d is another one", len(s), at, size)
				}
			}
		}
	}
	for _, n := range numbers() {
		for _, size := range ends {
			if octet.Put(n, size) != octet.Put(n, size) {
				t.Errorf("the second Put(%d, %d) is another one", n, size)
			}
		}
	}
}
