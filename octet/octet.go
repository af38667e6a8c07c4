// Package octet is layer 1: numbers as bytes, bytes as digits, and texts without what doesn't count (shared/doc/01-octet.md).
package octet

// digits stand at the places of their values.
const digits = "0123456789abcdef"

// Put answers the size lowest bytes of n, the highest first; the empty text, where size isn't from 1 to 8.
func Put(n uint64, size int) string {
	if !fits(size) {
		return ""
	}
	out := make([]byte, size)
	for i := range size {
		out[size-1-i] = byte(n >> (8 * i))
	}
	return string(out)
}

// Get answers the number whose size bytes stand in s from at on, and whether they are there.
func Get(s string, at, size int) (uint64, bool) {
	// at is held against the last place at which they could begin: at+size might go round.
	if !fits(size) || at < 0 || at > len(s)-size {
		return 0, false
	}
	var n uint64
	for i := range size {
		n = n<<8 | uint64(s[at+i])
	}
	return n, true
}

// fits tells whether a uint64 has so many bytes.
func fits(size int) bool { return 1 <= size && size <= 8 }

// Hex answers two digits for each byte of s, the higher half first.
func Hex(s string) string {
	out := make([]byte, 0, 2*len(s))
	for i := range len(s) {
		out = append(out, digits[s[i]>>4], digits[s[i]&15])
	}
	return string(out)
}

// Unhex answers the bytes whose digits s is, and whether it is such digits.
func Unhex(s string) (string, bool) {
	if len(s)%2 != 0 {
		return "", false
	}
	out := make([]byte, 0, len(s)/2)
	for i := 0; i < len(s); i += 2 {
		high, highOK := value(s[i])
		low, lowOK := value(s[i+1])
		if !highOK || !lowOK {
			return "", false
		}
		out = append(out, high<<4|low)
	}
	return string(out), true
}

// value answers a digit's value, and whether c is a digit.
func value(c byte) (byte, bool) {
	switch {
	case '0' <= c && c <= '9':
		return c - '0', true
	case 'a' <= c && c <= 'f':
		return c - 'a' + 10, true
	case 'A' <= c && c <= 'F':
		return c - 'A' + 10, true
	}
	return 0, false
}

// Fold answers s with a to z for A to Z.
func Fold(s string) string {
	// Bytes, not runes: a text may be any bytes, and those that are no letters stay as they are.
	out := make([]byte, len(s))
	for i := range len(s) {
		out[i] = small(s[i])
	}
	return string(out)
}

// Prep answers Fold of s, without blanks at its ends, and with one blank for each run of them.
func Prep(s string) string {
	out := make([]byte, 0, len(s))
	for i := range len(s) {
		if s[i] == ' ' && endsBlank(out) {
			continue
		}
		out = append(out, small(s[i]))
	}
	if len(out) > 0 && endsBlank(out) {
		out = out[:len(out)-1]
	}
	return string(out)
}

// endsBlank tells whether a blank behind b would be one too many; so it is behind nothing, too.
func endsBlank(b []byte) bool { return len(b) == 0 || b[len(b)-1] == ' ' }

// small answers the small letter of a capital one, and every other byte as it is.
func small(c byte) byte {
	if 'A' <= c && c <= 'Z' {
		return c - 'A' + 'a'
	}
	return c
}
