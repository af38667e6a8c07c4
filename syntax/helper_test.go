package syntax_test

import (
	"math/big"
	"math/rand"
	"regexp"
	"strconv"
	"strings"
	"testing"
	"time"

	"castellan/api"
	"castellan/dn"
	"castellan/syntax"
)

// is: a test fails, if something is another thing than was wanted.
func is[T comparable](t *testing.T, what string, got, want T) {
	t.Helper()
	if got != want {
		t.Errorf("%s: %v, wanted %v", what, got, want)
	}
}

// every syntax there is, and some numbers that are none.
var (
	every   = []int{api.Text, api.Exact, api.Ascii, api.Number, api.Truth, api.Name, api.Octets, api.Time}
	strange = []int{0, 9, 10, -1, -8, 256 + api.Text, 1 << 32, 1<<32 + api.Octets, -1 << 63, 1<<63 - 1}
)

// Another way to say what the syntaxes are.
var (
	numberForm = regexp.MustCompile(`\A(0|-?[1-9][0-9]*)\z`)
	timeForm   = regexp.MustCompile(`\A[0-9]{14}Z\z`)
	blanks     = regexp.MustCompile(` +`)
	lowest     = new(big.Int).Neg(new(big.Int).Lsh(big.NewInt(1), 63))
	above      = new(big.Int).Lsh(big.NewInt(1), 63)
)

// plain is Norm's words said in another way.
func plain(syn int, v string) (string, bool) {
	if len(v) > 4096 {
		return "", false
	}
	switch syn {
	case 1:
		return either(prepared(v), len(v) > 0 && plainUTF8(v))
	case 2:
		return either(v, len(v) > 0 && plainUTF8(v))
	case 3:
		return either(prepared(v), highest(v) < 128)
	case 4:
		return either(v, numberForm.MatchString(v) && value(v).Cmp(lowest) >= 0 && value(v).Cmp(above) < 0)
	case 5:
		return either(v, v == "TRUE" || v == "FALSE")
	case 6:
		d, e := dn.Parse(v)
		key, _ := dn.Norm(d)
		return either(key, e == api.OK)
	case 7:
		return v, true
	case 8:
		return either(v, timeForm.MatchString(v) && plainTime(v))
	}
	return "", false
}

// either answers v and true, where so; else the empty text and false.
func either(v string, so bool) (string, bool) {
	if !so {
		return "", false
	}
	return v, true
}

// prepared is Prep in another way.
func prepared(v string) string { return strings.Trim(blanks.ReplaceAllString(smaller(v), " "), " ") }

// smaller is Fold in another way.
func smaller(v string) string {
	out := []byte(v)
	for i, c := range out {
		if c >= 65 && c <= 90 {
			out[i] = c + 32
		}
	}
	return string(out)
}

// highest answers the highest byte of v.
func highest(v string) (most byte) {
	for i := range len(v) {
		most = max(most, v[i])
	}
	return most
}

// value answers the number that a text of digits is.
func value(v string) *big.Int {
	n, _ := new(big.Int).SetString(v, 10)
	return n
}

// plainTime asks another calendar of a text of the right form.
func plainTime(v string) bool {
	when, err := time.Parse("20060102150405Z", v)
	return err == nil && when.Format("20060102150405Z") == v
}

// plainUTF8 reads characters by their numbers: how many bytes follow the first one, and how many are needed.
func plainUTF8(v string) bool {
	for len(v) > 0 {
		more, n := 0, int(v[0])
		switch {
		case v[0] >= 0xf8 || v[0] >= 0x80 && v[0] < 0xc0:
			return false
		case v[0] >= 0xf0:
			more, n = 3, n-0xf0
		case v[0] >= 0xe0:
			more, n = 2, n-0xe0
		case v[0] >= 0xc0:
			more, n = 1, n-0xc0
		}
		if len(v) <= more {
			return false
		}
		for i := 1; i <= more; i++ {
			if v[i]&0xc0 != 0x80 {
				return false
			}
			n = n*64 + int(v[i]&0x3f)
		}
		if needed(n) != more || n > 0x10ffff || n >= 0xd800 && n <= 0xdfff {
			return false
		}
		v = v[more+1:]
	}
	return true
}

// needed tells how many bytes must follow the first one of a character.
func needed(n int) int {
	switch {
	case n < 1<<7:
		return 0
	case n < 1<<11:
		return 1
	case n < 1<<16:
		return 2
	}
	return 3
}

// spelt answers a character in more bytes than one, whether that is right or not.
func spelt(n, more int) string {
	out := []byte{byte([]int{0, 0xc0, 0xe0, 0xf0}[more] + n>>(6*more))}
	for i := more - 1; i >= 0; i-- {
		out = append(out, byte(0x80+n>>(6*i)&0x3f))
	}
	return string(out)
}

// asPlain: Norm answers of v what plain answers.
func asPlain(t *testing.T, syn int, v string) {
	t.Helper()
	want, wantOK := plain(syn, v)
	norm, ok := syntax.Norm(syn, v)
	if norm != want || ok != wantOK {
		t.Errorf("Norm(%d, %q) is %q, %v, wanted %q, %v", syn, v, norm, ok, want, wantOK)
	}
}

// norm is what Norm answers as one text: none, where there is no normal form.
func norm(syn int, v string) string {
	norm, ok := syntax.Norm(syn, v)
	switch {
	case ok:
		return strconv.Quote(norm)
	case norm != "":
		return "beside false " + norm
	}
	return "none"
}

// words calls with every text of the letters up to a length.
func words(letters string, most int, with func(string)) {
	with("")
	if most == 0 {
		return
	}
	for i := range len(letters) {
		words(letters, most-1, func(rest string) { with(letters[i:i+1] + rest) })
	}
}

// someText answers a text of so many of the letters.
func someText(r *rand.Rand, letters string, length int) string {
	out := make([]byte, length)
	for i := range out {
		out[i] = letters[r.Intn(len(letters))]
	}
	return string(out)
}
