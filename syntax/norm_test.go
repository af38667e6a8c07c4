package syntax_test

import (
	"fmt"
	"math/rand"
	"strconv"
	"strings"
	"testing"

	"castellan/api"
	"castellan/syntax"
)

// P12.1: Norm of values of each syntax, and of such as are none.
func TestNorm(t *testing.T) {
	for _, c := range []struct {
		syn     int
		v, want string
	}{
		{api.Text, " A  b", `"a b"`},
		{api.Text, "", "none"},
		{api.Text, " ", `""`},
		{api.Text, "     ", `""`},
		{api.Text, "\t A\n", `"\t a\n"`},
		{api.Text, "\x00", `"\x00"`},
		{api.Text, "É  Ä", `"É Ä"`},
		{api.Text, "\u212aK", "\"\u212ak\""},
		{api.Text, "\xff", "none"},
		{api.Text, "a\xc3", "none"},
		{api.Text, "\ufffd", "\"\ufffd\""},
		{api.Exact, "A b ", `"A b "`},
		{api.Exact, "  ", `"  "`},
		{api.Exact, "", "none"},
		{api.Exact, "é", `"é"`},
		{api.Exact, "\xe9", "none"},
		{api.Ascii, "", `""`},
		{api.Ascii, "  ", `""`},
		{api.Ascii, " A@B  c ", `"a@b c"`},
		{api.Ascii, "\x00\x7f", `"\x00\x7f"`},
		{api.Ascii, "\x80", "none"},
		{api.Ascii, "é", "none"},
		{api.Ascii, "a\xff", "none"},
		{api.Truth, "TRUE", `"TRUE"`},
		{api.Truth, "FALSE", `"FALSE"`},
		{api.Truth, "true", "none"},
		{api.Truth, "True", "none"},
		{api.Truth, "", "none"},
		{api.Truth, " TRUE", "none"},
		{api.Truth, "TRUEFALSE", "none"},
		{api.Truth, "1", "none"},
		{api.Name, "", `""`},
		{api.Name, "CN=A  b+ou=\\58,DC= ", "none"},
		{api.Name, "OU=\\58+CN=A  b,DC=z", `"cn=a b+ou=x,dc=z"`},
		{api.Name, "cn", "none"},
		{api.Name, "cn=a+cn=b", "none"},
		{api.Name, strings.Repeat("a=b,", 31) + "a=B", strconv.Quote(strings.Repeat("a=b,", 31) + "a=b")},
		{api.Name, strings.Repeat("a=b,", 32) + "a=b", "none"},
		{api.Octets, "", `""`},
		{api.Octets, " A \x00\xff", `" A \x00\xff"`},
	} {
		is(t, fmt.Sprintf("Norm(%d, %q)", c.syn, c.v), norm(c.syn, c.v), c.want)
		asPlain(t, c.syn, c.v)
	}
}

// P12.1: a value has at most MaxText bytes, whatever its syntax.
func TestNormLong(t *testing.T) {
	is(t, "MaxText", api.MaxText, 4096)
	for _, syn := range every {
		for _, c := range []struct{ first, fill, last string }{{"", "a", ""}, {"a", " ", "b"}, {"", " ", ""}, {"", "1", ""}, {"", "0", ""}, {"-", "9", ""}, {"cn=", "A", ""}, {"TRUE", " ", ""}, {"20240101000000Z", "Z", ""}, {"", "\xff", ""}} {
			for _, length := range []int{4094, 4095, 4096, 4097, 4098, 8192, 1 << 20} {
				v := c.first + strings.Repeat(c.fill, length-len(c.first)-len(c.last)) + c.last
				asPlain(t, syn, v)
				if length > 4096 {
					is(t, "too long", norm(syn, v), "none")
				}
			}
		}
	}
	for _, c := range []struct {
		syn  int
		fill string
	}{{api.Text, "é"}, {api.Exact, "é"}, {api.Ascii, "ab"}, {api.Octets, "\xff\xff"}} {
		is(t, "4096 bytes", norm(c.syn, strings.Repeat(c.fill, 2048)), strconv.Quote(strings.Repeat(c.fill, 2048)))
		is(t, "4097 bytes", norm(c.syn, strings.Repeat(c.fill, 2048)+"a"), "none")
	}
	is(t, "4096 blanks", norm(api.Ascii, strings.Repeat(" ", 4096)), `""`)
	is(t, "4097 blanks", norm(api.Ascii, strings.Repeat(" ", 4097)), "none")
	is(t, "a name of 4096 bytes", norm(api.Name, "a="+strings.Repeat("B", 4094)), strconv.Quote("a="+strings.Repeat("b", 4094)))
	is(t, "a name of 4097 bytes", norm(api.Name, "a="+strings.Repeat("B", 4095)), "none")
}

// P12.1: of other syntaxes no value has a normal form.
func TestNormStrange(t *testing.T) {
	for _, syn := range strange {
		for _, v := range []string{"", "a", "0", "TRUE", "cn=a", "20240101000000Z", "\xff"} {
			is(t, fmt.Sprintf("Norm(%d, %q)", syn, v), norm(syn, v), "none")
		}
	}
}

// P12.1: texts of one, two and three characters, and of bytes that are none, held against another way to read them.
func TestNormUTF8(t *testing.T) {
	for _, syn := range []int{api.Text, api.Exact, api.Ascii, api.Octets} {
		for c := range 256 {
			one := string([]byte{byte(c)})
			asPlain(t, syn, one)
			for c := range 256 {
				asPlain(t, syn, one+string([]byte{byte(c)}))
			}
		}
		for more := 1; more <= 3; more++ {
			// Steps that meet every bound, and every number near it; not all.
			for n := 0; n < 1<<(6*more+6-more); n++ {
				if n%0x40 < 2 || n%0x40 > 0x3d || n%0x11 == 0 {
					asPlain(t, syn, spelt(n, more))
				}
			}
		}
	}
	bytes := "\x00A\x7f\x80\x8f\x90\x9f\xa0\xbf\xc0\xc1\xc2\xdf\xe0\xe1\xec\xed\xee\xef\xf0\xf1\xf3\xf4\xf5\xf7\xf8\xfe\xff"
	words(bytes, 4, func(s string) { asPlain(t, api.Exact, s) })
	for _, c := range []struct {
		v  string
		ok bool
	}{
		{"\u0080", true}, {"\u07ff", true}, {"\u0800", true}, {"\ud7ff", true}, {"\ue000", true}, {"\uffff", true}, {"\U00010000", true}, {"\U0010ffff", true},
		{"\xc0\x80", false}, {"\xc1\xbf", false}, {"\xe0\x9f\xbf", false}, {"\xed\xa0\x80", false}, {"\xed\xbf\xbf", false}, {"\xf0\x8f\xbf\xbf", false}, {"\xf4\x90\x80\x80", false},
		{"\xf8\x88\x80\x80\x80", false}, {"\x80", false}, {"\xe2\x82", false}, {"\xe2\x82\xac", true}, {"a\xe2\x82\xacb", true}, {"a\xe2\x82b", false}, {"\xed\xa0\xbd\xed\xb8\x80", false},
	} {
		_, ok := syntax.Norm(api.Text, c.v)
		is(t, strconv.Quote(c.v), ok, c.ok)
	}
}

// P12.1: numbers, at their ends, and texts that are nearly some.
func TestNormNumber(t *testing.T) {
	for _, v := range []string{
		"0", "7", "-7", "10", "-10", "100", "9223372036854775807", "-9223372036854775808", "9223372036854775799", "1000000000000000000",
	} {
		is(t, v, norm(api.Number, v), strconv.Quote(v))
		asPlain(t, api.Number, v)
	}
	for _, v := range []string{
		"", "-", "+", "-0", "+0", "+7", "07", "00", "-07", "--7", "7-", "7 ", " 7", "1 0", "1,0", "1.0", "1e3", "0x1", "1_000", "_1", "a", "\u0663", "7\x00", "\xff",
		"9223372036854775808", "-9223372036854775809", "9223372036854775810", "18446744073709551615", "18446744073709551616", "10000000000000000000", "-10000000000000000000",
		"00000000000000000001", "-" + strings.Repeat("1", 4000), strings.Repeat("0", 30), strings.Repeat("1", 4096),
	} {
		is(t, v, norm(api.Number, v), "none")
		asPlain(t, api.Number, v)
	}
	words("-0+17 ", 6, func(s string) { asPlain(t, api.Number, s) })
	r := rand.New(rand.NewSource(4))
	for range 20000 {
		asPlain(t, api.Number, strings.Repeat("-", r.Intn(2))+someText(r, "0123456789", 1+r.Intn(21)))
	}
}

// P12.1: times, all days of a year that is longer and of one that isn't, all hours, minutes and seconds.
func TestNormTime(t *testing.T) {
	for _, year := range []string{"2023", "2024", "1900", "2000", "0000", "0001", "0004", "0100", "0400", "9999", "2100"} {
		for month := range 100 {
			for day := range 100 {
				asPlain(t, api.Time, fmt.Sprintf("%s%02d%02d120000Z", year, month, day))
			}
		}
	}
	for year := range 10000 {
		v := fmt.Sprintf("%04d0229235959Z", year)
		_, ok := syntax.Norm(api.Time, v)
		is(t, v, ok, year%400 == 0 || year%100 > 0 && year%4 == 0)
		asPlain(t, api.Time, v)
	}
	for n := range 100 {
		asPlain(t, api.Time, fmt.Sprintf("20240131%02d0000Z", n))
		asPlain(t, api.Time, fmt.Sprintf("2024013100%02d00Z", n))
		asPlain(t, api.Time, fmt.Sprintf("202401310000%02dZ", n))
	}
}

// P12.1: months' lengths, and texts that are nearly times.
func TestNormTimeForm(t *testing.T) {
	for month, days := range []int{31, 29, 31, 30, 31, 30, 31, 31, 30, 31, 30, 31} {
		last := fmt.Sprintf("2024%02d%02d235959Z", month+1, days)
		is(t, last, norm(api.Time, last), strconv.Quote(last))
		behind := fmt.Sprintf("2024%02d%02d000000Z", month+1, days+1)
		is(t, behind, norm(api.Time, behind), "none")
		none := fmt.Sprintf("2024%02d00000000Z", month+1)
		is(t, none, norm(api.Time, none), "none")
	}
	is(t, "the first time", norm(api.Time, "00000101000000Z"), `"00000101000000Z"`)
	is(t, "the last time", norm(api.Time, "99991231235959Z"), `"99991231235959Z"`)
	whole := "20240229235959Z"
	for i := range len(whole) {
		asPlain(t, api.Time, whole[:i])
		asPlain(t, api.Time, whole[:i]+whole[i+1:])
		for c := range 256 {
			asPlain(t, api.Time, whole[:i]+string([]byte{byte(c)})+whole[i+1:])
			asPlain(t, api.Time, whole[:i]+string([]byte{byte(c)})+whole[i:])
		}
		asPlain(t, api.Time, whole[:i]+"\u0663"+whole[i+1:])
		asPlain(t, api.Time, whole[:i]+"\u0663"+whole[min(i+2, len(whole)):])
	}
	for _, v := range []string{"", "Z", "20240229235959", "20240229235959z", "20240229235959+0000", "20240229235959.0Z", "202402292359Z", "20240229235960Z", "20240229240000Z", "20240229236000Z",
		"20240229235959ZZ", " 20240229235959Z", "20240229235959Z ", "+2024022923595Z", "-2024022923595Z", "2024-02-29T23Z", "120240229235959Z", "20241301000000Z", "20240001000000Z", "20240132000000Z"} {
		is(t, v, norm(api.Time, v), "none")
		asPlain(t, api.Time, v)
	}
}

// P12.1: all short texts, and some longer ones by chance, of each syntax.
func TestNormAll(t *testing.T) {
	for _, syn := range append(every, strange...) {
		words("aB ,=\\0\xc3\xa9", 4, func(s string) { asPlain(t, syn, s) })
		r := rand.New(rand.NewSource(int64(syn)))
		for range 3000 {
			asPlain(t, syn, someText(r, "aZ  \x00\x7f\xc3\xa9", r.Intn(30)))
			asPlain(t, syn, someText(r, "aB=,+\\ 2", r.Intn(12)))
		}
	}
}

// P1: the same answer again, and another's values change none.
func TestNormAgain(t *testing.T) {
	first := norm(api.Text, " A  b")
	norm(api.Text, "other")
	norm(api.Ascii, " A  b")
	is(t, "again", norm(api.Text, " A  b"), first)
}
