package pass_test

import (
	"crypto/sha256"
	"encoding/binary"
	"encoding/hex"
	"math"
	"strconv"
	"strings"
	"testing"

	"castellan/api"
	"castellan/pass"
)

// kept is a stored password as another program makes it.
func kept(password string, salt uint64) string {
	seed := binary.BigEndian.AppendUint64(nil, salt)
	sum := sha256.Sum256(append(seed[:8:8], password...))
	return "{SALTED}" + hex.EncodeToString(seed) + hex.EncodeToString(sum[:])
}

// salts are such as show each byte's place.
func salts() []uint64 {
	list := []uint64{0, 1, 7, 0x0123456789abcdef, 0xfedcba9876543210, math.MaxInt64, math.MaxUint64}
	for i := range 64 {
		list = append(list, 1<<i)
	}
	return list
}

// passwords are such as may be kept.
func passwords() []string {
	return []string{
		"a", "A", "secret", "Secret", " ", " secret", "secret ", "\x00", "\x00\x00", "\xff\xfe", "é",
		"{SALTED}", kept("a", 1), strings.Repeat("x", 47), strings.Repeat("x", 48), strings.Repeat("x", 55), strings.Repeat("x", 56),
		strings.Repeat("x", api.MaxPass-1), strings.Repeat("x", api.MaxPass), strings.Repeat("\x00", api.MaxPass),
	}
}

// notStored are texts that are near a stored password, and none.
func notStored() []string {
	s := kept("a", 0xabcdef)
	list := []string{
		"", "a", "{SALTED}", s[1:], s[:87], s + "0", s + " ", " " + s, s + "\x00", s + s, s[8:],
		strings.ToUpper(s), strings.ToLower(s), "{salted}" + s[8:], "{Salted}" + s[8:], "{SSHA25}" + s[8:], "(SALTED)" + s[8:], "{SALTED " + s[8:],
		"{SALTED}" + strings.Repeat("A", 80), "{SALTED}" + strings.Repeat("g", 80), "{SALTED}" + strings.Repeat(" ", 80), "{SALTED}" + strings.Repeat("\xff", 80),
		s[:8] + s[9:] + " ", s[:87] + "F", strings.Repeat("0", 88), strings.Repeat("{", 88),
	}
	for at := range len(s) {
		list = append(list, s[:at]+"A"+s[at+1:], s[:at]+"g"+s[at+1:], s[:at]+"\x00"+s[at+1:], s[:at]+s[at+1:], s[:at]+"0"+s[at:])
	}
	out := list[:0]
	for _, one := range list { // an A put for an A of the front changes nothing
		if one != s {
			out = append(out, one)
		}
	}
	return out
}

// P4.1: Make.
func TestMake(t *testing.T) {
	for _, p := range passwords() {
		for _, salt := range salts() {
			got, e := pass.Make(p, salt)
			if want := kept(p, salt); got != want || e != api.OK {
				t.Errorf("Make(%q, %d) is %q, %v, wanted %q", p, salt, got, e, want)
			}
		}
	}
	const want = "{SALTED}0000000000000001"
	got, e := pass.Make("a", 1)
	if e != api.OK || len(got) != 88 || got[:24] != want {
		t.Errorf("Make(\"a\", 1) is %q, %v", got, e)
	}
}

// P4.1: a password of every length that may be.
func TestMakeOfEveryLength(t *testing.T) {
	for length := 1; length <= api.MaxPass; length++ {
		p := strings.Repeat("p", length)
		if got, e := pass.Make(p, 5); got != kept(p, 5) || e != api.OK {
			t.Errorf("Make of %d bytes is %q, %v", length, got, e)
		}
	}
}

// P4.1: a password that may not be kept.
func TestMakeOfNone(t *testing.T) {
	rows := []struct {
		password string
		want     api.Errno
	}{
		{"", api.ErrArg},
		{strings.Repeat("x", api.MaxPass+1), api.ErrLong},
		{strings.Repeat("\x00", api.MaxPass+1), api.ErrLong},
		{strings.Repeat("é", api.MaxPass/2) + "x", api.ErrLong}, // bytes count, not letters
		{strings.Repeat("x", 1<<20), api.ErrLong},
	}
	for _, row := range rows {
		for _, salt := range salts() {
			if got, e := pass.Make(row.password, salt); got != "" || e != row.want {
				t.Errorf("Make of %d bytes is %q, %v, wanted %v", len(row.password), got, e, row.want)
			}
		}
	}
	if _, e := pass.Make(strings.Repeat("é", api.MaxPass/2), 1); e != api.OK {
		t.Errorf("Make of 128 letters of two bytes: %v", e)
	}
}

// P4.2: Stored and Salt, of stored passwords.
func TestStored(t *testing.T) {
	for _, salt := range salts() {
		list := []string{kept("a", salt), kept("b", salt)[:24] + strings.Repeat("0", 64), kept("b", salt)[:24] + strings.Repeat("f", 64)}
		for _, s := range list { // a form is asked for, not that a password makes it
			if !pass.Stored(s) {
				t.Errorf("Stored(%q) is false", s)
			}
			if got, ok := pass.Salt(s); got != salt || !ok {
				t.Errorf("Salt(%q) is %d, %v, wanted %d", s, got, ok, salt)
			}
		}
	}
	const all = "{SALTED}0123456789abcdef0123456789abcdef0123456789abcdef0123456789abcdef0123456789abcdef"
	if got, ok := pass.Salt(all); !pass.Stored(all) || got != 0x0123456789abcdef || !ok {
		t.Errorf("of every digit: %v, %x, %v", pass.Stored(all), got, ok)
	}
}

// P4.2: Stored and Salt, of other texts.
func TestNotStored(t *testing.T) {
	for _, s := range notStored() {
		if pass.Stored(s) {
			t.Errorf("Stored(%q) is true", s)
		}
		if got, ok := pass.Salt(s); got != 0 || ok {
			t.Errorf("Salt(%q) is %d, %v, wanted 0, false", s, got, ok)
		}
	}
}

// P4.2: every byte at places of the salt and of the digest.
func TestDigits(t *testing.T) {
	s := kept("a", 3)
	for _, at := range []int{8, 9, 15, 23, 24, 25, 60, 87} {
		for c := range 256 {
			one := s[:at] + string([]byte{byte(c)}) + s[at+1:]
			want := strings.IndexByte("0123456789abcdef", byte(c)) >= 0
			if got := pass.Stored(one); got != want {
				t.Errorf("Stored with the byte %d at %d is %v", c, at, got)
			}
			salt, ok := pass.Salt(one)
			wanted := uint64(0)
			if want {
				wanted, _ = strconv.ParseUint(one[8:24], 16, 64)
			}
			if salt != wanted || ok != want {
				t.Errorf("Salt with the byte %d at %d is %d, %v", c, at, salt, ok)
			}
		}
	}
}

// P4.3, P4.4: Check, of the password that was kept, and of all others.
func TestCheck(t *testing.T) {
	for _, salt := range []uint64{0, 1, 0xabcdef, math.MaxUint64} {
		for i, p := range passwords() {
			s, e := pass.Make(p, salt)
			if e != api.OK {
				t.Fatalf("Make(%q, %d): %v", p, salt, e)
			}
			for j, q := range passwords() {
				if got := pass.Check(s, q); got != (i == j) {
					t.Errorf("Check of %q against %q is %v", p, q, got)
				}
			}
			for _, q := range []string{"", p + "x", "x" + p, p + "\x00", p[1:], s} {
				if q != p && pass.Check(s, q) {
					t.Errorf("Check of %q against %q is true", p, q)
				}
			}
		}
	}
}

// P4.3: a digest or a salt that is another one.
func TestCheckOfTurned(t *testing.T) {
	s := kept("a", 9)
	if !pass.Check(s, "a") {
		t.Fatal("Check of what was kept is false")
	}
	for at := 8; at < len(s); at++ {
		turned := "0"
		if s[at] == '0' {
			turned = "f"
		}
		one := s[:at] + turned + s[at+1:]
		if !pass.Stored(one) {
			t.Fatalf("%q isn't of the form", one)
		}
		if pass.Check(one, "a") {
			t.Errorf("Check is true with the digit at %d turned", at)
		}
	}
	if pass.Check(kept("a", 8), "a") != true || pass.Check(kept("a", 8)[:24]+s[24:], "a") {
		t.Error("a digest passes with another salt")
	}
}

// P4.3: no stored password, or no password.
func TestCheckOfNone(t *testing.T) {
	others := append(notStored(), "secret")
	for _, s := range others {
		for _, p := range []string{"a", "", "secret", s} {
			if pass.Check(s, p) {
				t.Errorf("Check(%q, %q) is true", s, p)
			}
		}
	}
	// Digests that are right, of passwords that none may have.
	for _, p := range []string{"", strings.Repeat("x", api.MaxPass+1), strings.Repeat("x", 1000)} {
		s := kept(p, 4)
		if !pass.Stored(s) {
			t.Fatalf("%q isn't of the form", s)
		}
		if pass.Check(s, p) {
			t.Errorf("Check of a password of %d bytes is true", len(p))
		}
	}
	if s := kept("a", 0xabcdef); pass.Check(s[:8]+strings.ToUpper(s[8:]), "a") {
		t.Error("Check is true of capital digits")
	}
}

// P1: every call ends, and answers the same again.
func TestAllCallsEnd(t *testing.T) {
	texts := append(notStored(), passwords()...)
	texts = append(texts, strings.Repeat("\xff", 1<<20), "{SALTED}"+strings.Repeat("0", 1<<20))
	for _, s := range texts {
		salt, ok := pass.Salt(s)
		again, still := pass.Salt(s)
		if salt != again || ok != still || ok != pass.Stored(s) {
			t.Errorf("Salt of %d bytes: %d, %v, then %d, %v", len(s), salt, ok, again, still)
		}
		for _, p := range []string{"", "a", s} {
			if pass.Check(s, p) != pass.Check(s, p) {
				t.Errorf("the second Check of %d bytes is another one", len(s))
			}
		}
		for _, n := range []uint64{0, 1, math.MaxUint64} {
			one, e := pass.Make(s, n)
			two, f := pass.Make(s, n)
			if one != two || e != f {
				t.Errorf("the second Make of %d bytes is another one", len(s))
			}
		}
	}
}
