package page_test

import (
	"math"
	"math/rand"
	"strings"
	"testing"

	"castellan/page"
)

// P26.1: Answer of sizes at their edges, and of cookies, by hand.
func TestAnswer(t *testing.T) {
	for _, c := range []struct {
		size   int
		cookie string
		want   string
	}{
		{5, "", "30 05 02 01 05 04 00"},
		{0, "", "30 05 02 01 00 04 00"},
		{1, "x", "30 06 02 01 01 04 01 78"},
		{127, "", "30 05 02 01 7f 04 00"},
		{128, "", "30 06 02 02 00 80 04 00"},
		{255, "\x00", "30 07 02 02 00 ff 04 01 00"},
		{256, "", "30 06 02 02 01 00 04 00"},
		{32768, "", "30 07 02 03 00 80 00 04 00"},
		{2147483647, "\x00\x00\x00\x00\x00\x00\x00\x01", "30 10 02 04 7f ff ff ff 04 08 00 00 00 00 00 00 00 01"},
		// Sizes that may not be
		{-1, "", ""}, {-1, "x", ""}, {2147483648, "", ""}, {math.MaxInt, "x", ""}, {math.MinInt, "", ""}, {1 << 32, "", ""}, {1<<32 + 5, "", ""}, {-1 << 32, "", ""},
	} {
		is(t, "Answer", digits(page.Answer(c.size, c.cookie)), c.want)
	}
}

// P26.1: as few bytes for each length as can be; Put's error, where there would be too many in all.
func TestLongAnswer(t *testing.T) {
	for _, count := range []int{0, 1, 121, 122, 123, 127, 128, 129, 247, 248, 249, 255, 256, 257, 65524, 65525, 65530, 65535, 65536, 70000, 1000000, 1048567, 1048568} {
		cookie := strings.Repeat("c", count)
		value := page.Answer(5, cookie)
		is(t, "Answer of many bytes", value == plainAnswer(5, cookie), true)
		is(t, "Ask of many bytes", asked(value), said(5, cookie, true))
	}
	for _, count := range []int{1048569, 1048570, 1048576, 1048577, 2000000} {
		is(t, "Answer of too many bytes", page.Answer(5, strings.Repeat("c", count)), "")
	}
	is(t, "of a size of two bytes", page.Answer(128, strings.Repeat("c", 1048567)) == "", false)
	is(t, "of a size of two bytes, one more", page.Answer(128, strings.Repeat("c", 1048568)), "")
}

// P26.1: Ask of what Answer says; of lengths in more bytes than need be, too.
func TestAsk(t *testing.T) {
	r := rand.New(rand.NewSource(261))
	for _, size := range []int{0, 1, 5, 127, 128, 255, 256, 32767, 32768, 8388607, 8388608, 2147483646, 2147483647} {
		for _, cookie := range []string{"", "x", "\x00", "\x30\x80", strings.Repeat("y", 127), strings.Repeat("z", 300)} {
			is(t, "Ask of Answer", asked(page.Answer(size, cookie)), said(size, cookie, true))
			for range 20 {
				value := plainAnswer(size, cookie, r.Intn(5), r.Intn(5), r.Intn(5))
				is(t, "Ask of "+digits(value), asked(value), said(size, cookie, true))
			}
		}
	}
	is(t, "lengths of a nought more", asked("\x30\x81\x08\x02\x81\x01\x05\x04\x82\x00\x00"), "5 [] true")
}

// P26.1: values that no Answer says.
func TestAskOthers(t *testing.T) {
	for what, value := range map[string]string{
		"nothing":                    "",
		"no parts":                   "\x30\x00",
		"a size alone":               "\x30\x03\x02\x01\x05",
		"a cookie alone":             "\x30\x02\x04\x00",
		"the other order":            "\x30\x05\x04\x00\x02\x01\x05",
		"a part more":                "\x30\x07\x02\x01\x05\x04\x00\x04\x00",
		"something behind":           "\x30\x05\x02\x01\x05\x04\x00\x00",
		"something behind the size":  "\x30\x07\x02\x01\x05\x04\x00\x05\x00",
		"a set":                      "\x31\x05\x02\x01\x05\x04\x00",
		"not constructed":            "\x10\x05\x02\x01\x05\x04\x00",
		"an enumeration":             "\x30\x05\x0a\x01\x05\x04\x00",
		"a tag of its own":           "\x30\x05\x80\x01\x05\x04\x00",
		"another text":               "\x30\x05\x02\x01\x05\x0c\x00",
		"a text of texts":            "\x30\x05\x02\x01\x05\x24\x00",
		"a number of none":           "\x30\x05\x22\x01\x05\x04\x00",
		"a size without bytes":       "\x30\x04\x02\x00\x04\x00",
		"a size with a nought":       "\x30\x06\x02\x02\x00\x05\x04\x00",
		"a size with a nought, 127":  "\x30\x06\x02\x02\x00\x7f\x04\x00",
		"a size below 0":             "\x30\x05\x02\x01\xff\x04\x00",
		"a size below 0, of 4 bytes": "\x30\x08\x02\x04\x80\x00\x00\x00\x04\x00",
		"a size that is too great":   "\x30\x09\x02\x05\x00\x80\x00\x00\x00\x04\x00",
		"a size of 2 to the 32":      "\x30\x09\x02\x05\x01\x00\x00\x00\x00\x04\x00",
		"a size of 2 to the 32, 5":   "\x30\x09\x02\x05\x01\x00\x00\x00\x05\x04\x00",
		"the greatest of 8 bytes":    "\x30\x0c\x02\x08\x7f\xff\xff\xff\xff\xff\xff\xff\x04\x00",
		"a size of 9 bytes":          "\x30\x0d\x02\x09\x00\xff\xff\xff\xff\xff\xff\xff\xff\x04\x00",
		"too short":                  "\x30\x06\x02\x01\x05\x04\x00",
		"a length of none":           "\x30\x80\x02\x01\x05\x04\x00\x00\x00",
		"a length of 5 bytes":        "\x30\x85\x00\x00\x00\x00\x05\x02\x01\x05\x04\x00",
		"a cookie that is too short": "\x30\x05\x02\x01\x05\x04\x01",
	} {
		is(t, what, asked(value), "0 [] false")
	}
	whole := page.Answer(300, "cookie")
	for i := range len(whole) {
		is(t, "a beginning", asked(whole[:i]), "0 [] false")
		is(t, "an end", i > 0 && asked(whole[i:]) != "0 [] false", false)
	}
}

// P26.1: values by chance, most of them turned somewhere: as read in another way; what is read is what an Answer says.
func TestSomeValues(t *testing.T) {
	r := rand.New(rand.NewSource(262))
	good, bad := 0, 0
	for range 200000 {
		cookie := strings.Repeat("\x04\x00\x02\x30", 40)[:r.Intn(3)*r.Intn(50)]
		value := []byte(plainAnswer(r.Intn(1<<(1+r.Intn(31))), cookie, r.Intn(3)*r.Intn(3), r.Intn(3)*r.Intn(3), r.Intn(3)*r.Intn(3)))
		for range r.Intn(3) {
			at := r.Intn(min(len(value), 16))
			switch r.Intn(4) {
			case 0:
				value[at] = byte(r.Intn(256))
			case 1:
				value[at] += byte(r.Intn(3)) - 1
			case 2:
				value = append(value[:at:at], value[at+1:]...)
			default:
				value = append(value[:at:at], append([]byte{"\x00\x01\x02\x04\x30\x80\x81\xff"[r.Intn(8)]}, value[at:]...)...)
			}
			if len(value) == 0 {
				value = []byte{0x30}
			}
		}
		size, held, ok := page.Ask(string(value))
		is(t, digits(string(value)), said(size, held, ok), said(plainAsk(string(value))))
		if !ok {
			bad++
			continue
		}
		good++
		is(t, "Answer of "+said(size, held, ok), page.Answer(size, held) == plainAnswer(size, held), true)
		is(t, "no longer", len(page.Answer(size, held)) <= len(value), true)
	}
	if good < 30000 || bad < 30000 {
		t.Errorf("too few: %d good, %d bad", good, bad)
	}
}
