package page_test

import (
	"fmt"
	"testing"

	"castellan/page"
)

// is: a test fails, if something is another thing than was wanted.
func is[T comparable](t *testing.T, what string, got, want T) {
	t.Helper()
	if got != want {
		t.Errorf("%.2000s: %.1000s, wanted %.1000s", what, fmt.Sprint(got), fmt.Sprint(want))
	}
}

// digits answers the bytes of a text in base sixteen, of a long one the first alone.
func digits(s string) string {
	if len(s) > 100 {
		return fmt.Sprintf("% x and %d more", s[:100], len(s)-100)
	}
	return fmt.Sprintf("% x", s)
}

// asked is what Ask tells, as a text.
func asked(value string) string { return said(page.Ask(value)) }

// said answers a size and a cookie as a text.
func said(size int, cookie string, ok bool) string {
	return fmt.Sprint(size, " [", digits(cookie), "] ", ok)
}

// element answers an element of BER whose length is told in so many bytes behind the first one (0: as few as can be).
func element(tag byte, data string, wide int) string {
	n := len(data)
	if wide == 0 && n < 128 {
		return string([]byte{tag, byte(n)}) + data
	}
	var length []byte
	for ; n > 0 || len(length) < wide; n /= 256 {
		length = append([]byte{byte(n % 256)}, length...)
	}
	return string([]byte{tag, byte(128 + len(length))}) + string(length) + data
}

// number answers the bytes of a number from 0 to 2147483647.
func number(n int) string {
	out := []byte{byte(n)}
	for n /= 256; n > 0 || out[0] >= 128; n /= 256 {
		out = append([]byte{byte(n)}, out...)
	}
	return string(out)
}

// plainAnswer is Answer in another way, with lengths that are told in so many bytes, of what fits.
func plainAnswer(size int, cookie string, wide ...int) string {
	wide = append(wide, 0, 0, 0)
	return element(0x30, element(2, number(size), wide[1])+element(4, cookie, wide[2]), wide[0])
}

// cut answers the bytes of the element with which s begins, if it has that tag, and what is behind it.
func cut(s string, tag byte) (data, rest string, ok bool) {
	if len(s) < 2 || s[0] != tag {
		return "", "", false
	}
	n, at := int(s[1]), 2
	if n >= 128 {
		at, n = 2+n-128, 0
		if at < 3 || at > 6 || at > len(s) {
			return "", "", false
		}
		for _, c := range []byte(s[2:at]) {
			n = n*256 + int(c)
		}
	}
	if n > 1048576 || at+n > len(s) {
		return "", "", false
	}
	return s[at : at+n], s[at+n:], true
}

// plainAsk is Ask in another way: element by element.
func plainAsk(value string) (int, string, bool) {
	inside, rest, ok := cut(value, 0x30)
	if !ok || rest != "" {
		return 0, "", false
	}
	digits, inside, ok := cut(inside, 2)
	if !ok || len(digits) < 1 || len(digits) > 4 || digits[0] > 127 {
		return 0, "", false
	}
	size := 0
	for _, c := range []byte(digits) {
		size = size*256 + int(c)
	}
	if number(size) != digits {
		return 0, "", false
	}
	cookie, rest, ok := cut(inside, 4)
	if !ok || rest != "" {
		return 0, "", false
	}
	return size, cookie, true
}

// spot is a place of a plain book.
type spot struct {
	conn, number int
	key          string
	version, at  int
}

// list is a plain book: all places, and how many there were.
type list struct {
	spots []spot
	count int
}

// keep is Keep.
func (l *list) keep(conn int, key string, version, at int) string {
	l.count++
	l.spots = append(l.spots, spot{conn, l.count, key, version, at})
	own, first := 0, -1
	for i, s := range l.spots {
		if s.conn == conn {
			own++
			if first < 0 {
				first = i
			}
		}
	}
	if own > 4 {
		l.spots = append(l.spots[:first:first], l.spots[first+1:]...)
	}
	return string([]byte{0, 0, 0, 0, byte(l.count >> 24), byte(l.count >> 16), byte(l.count >> 8), byte(l.count)})
}

// take is Take.
func (l *list) take(conn int, cookie, key string, version int) (int, bool) {
	for i, s := range l.spots {
		if s.conn == conn && fmt.Sprintf("%016x", s.number) == fmt.Sprintf("%x", cookie) {
			l.spots = append(l.spots[:i:i], l.spots[i+1:]...)
			if s.key == key && s.version == version {
				return s.at, true
			}
			return 0, false
		}
	}
	return 0, false
}

// drop is Drop.
func (l *list) drop(conn int) {
	var left []spot
	for _, s := range l.spots {
		if s.conn != conn {
			left = append(left, s)
		}
	}
	l.spots = left
}
