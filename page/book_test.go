package page_test

import (
	"fmt"
	"math"
	"math/rand"
	"testing"

	"castellan/page"
)

// taken is what Take tells, as a text.
func taken(at int, ok bool) string { return fmt.Sprint(at, " ", ok) }

// cookie answers the cookie of a place's number.
func cookie(n int) string {
	return string([]byte{0, 0, 0, 0, 0, byte(n >> 16), byte(n >> 8), byte(n)})
}

// The constants, as others know them.
func TestConstants(t *testing.T) {
	is(t, "OID", page.OID, "1.2.840.113556.1.4.319")
	is(t, "Most", page.Most, 4)
}

// P26.2: numbers rise from 1 on, over all connections; none comes again.
func TestNumbers(t *testing.T) {
	b := page.New()
	is(t, "Len of none", b.Len(), 0)
	is(t, "the first", b.Keep(7, "k", 0, 5), cookie(1))
	is(t, "another connection's", b.Keep(8, "k", 0, 5), cookie(2))
	is(t, "taken", taken(b.Take(8, cookie(2), "k", 0)), "5 true")
	is(t, "behind one that is taken", b.Keep(8, "k", 0, 5), cookie(3))
	b.Drop(7)
	b.Drop(8)
	is(t, "Len of all dropped", b.Len(), 0)
	is(t, "behind all that are gone", b.Keep(7, "k", 0, 5), cookie(4))
	for n := 5; n < 70000; n++ {
		is(t, "one more", b.Keep(7, "k", 0, 5), cookie(n))
	}
	is(t, "four of many", b.Len(), 4)
	is(t, "another book", page.New().Keep(7, "k", 0, 5), cookie(1))
}

// P26.2: of a connection's places those with the greatest numbers stay, whatever others have.
func TestMost(t *testing.T) {
	b := page.New()
	b.Keep(2, "other", 1, 9)
	for at := range 6 {
		b.Keep(1, "k", 1, at)
		is(t, "Len", b.Len(), 1+min(at+1, 4))
	}
	is(t, "the first one", taken(b.Take(1, cookie(2), "k", 1)), "0 false")
	is(t, "the second one", taken(b.Take(1, cookie(3), "k", 1)), "0 false")
	is(t, "one between", taken(b.Take(1, cookie(5), "k", 1)), "3 true")
	is(t, "Len behind it", b.Len(), 4)
	b.Keep(1, "k", 1, 10)
	is(t, "four again", b.Len(), 5)
	is(t, "the third one is still there", taken(b.Take(1, cookie(4), "k", 1)), "2 true")
	b.Keep(1, "k", 1, 11)
	b.Keep(1, "k", 1, 12)
	is(t, "the least is gone", taken(b.Take(1, cookie(6), "k", 1)), "0 false")
	for n, at := range map[int]int{7: 5, 8: 10, 9: 11, 10: 12} {
		is(t, "those that stay", taken(b.Take(1, cookie(n), "k", 1)), fmt.Sprint(at, " true"))
	}
	is(t, "the other connection's", taken(b.Take(2, cookie(1), "other", 1)), "9 true")
	is(t, "Len of none", b.Len(), 0)
}

// P26.2, P26.3: a cookie is good once, for its connection, key and version.
func TestTake(t *testing.T) {
	for _, c := range []struct {
		what         string
		conn         int
		cookie, key  string
		version      int
		want, behind string
		len          int
	}{
		{"its own", 1, cookie(2), "k", 7, "33 true", "0 false", 2},
		{"another connection's", 2, cookie(2), "k", 7, "0 false", "33 true", 3},
		{"no connection's", -1, cookie(2), "k", 7, "0 false", "33 true", 3},
		{"another key", 1, cookie(2), "K", 7, "0 false", "0 false", 2},
		{"no key", 1, cookie(2), "", 7, "0 false", "0 false", 2},
		{"a longer key", 1, cookie(2), "kk", 7, "0 false", "0 false", 2},
		{"a lower version", 1, cookie(2), "k", 6, "0 false", "0 false", 2},
		{"a higher version", 1, cookie(2), "k", 8, "0 false", "0 false", 2},
		{"version and key of another", 1, cookie(2), "l", 8, "0 false", "0 false", 2},
		{"another place's", 1, cookie(1), "k", 7, "0 false", "33 true", 2},
		{"that was none", 1, cookie(4), "k", 7, "0 false", "33 true", 3},
		{"the nought", 1, cookie(0), "k", 7, "0 false", "33 true", 3},
		{"empty", 1, "", "k", 7, "0 false", "33 true", 3},
		{"too short", 1, cookie(2)[1:], "k", 7, "0 false", "33 true", 3},
		{"without the last byte", 1, cookie(2)[:7], "k", 7, "0 false", "33 true", 3},
		{"too long", 1, cookie(2) + "\x00", "k", 7, "0 false", "33 true", 3},
		{"a byte ahead", 1, "\x00" + cookie(2), "k", 7, "0 false", "33 true", 3},
		{"the lowest byte first", 1, "\x02\x00\x00\x00\x00\x00\x00\x00", "k", 7, "0 false", "33 true", 3},
		{"a high byte", 1, "\x01\x00\x00\x00\x00\x00\x00\x02", "k", 7, "0 false", "33 true", 3},
	} {
		b := page.New()
		b.Keep(1, "l", 8, 22)
		b.Keep(1, "k", 7, 33)
		b.Keep(2, "k", 7, 44)
		is(t, c.what, taken(b.Take(c.conn, c.cookie, c.key, c.version)), c.want)
		is(t, c.what+": Len", b.Len(), c.len)
		is(t, c.what+": behind it", taken(b.Take(1, cookie(2), "k", 7)), c.behind)
	}
}

// P26.2: Drop takes a connection's places alone.
func TestDrop(t *testing.T) {
	b := page.New()
	b.Drop(1)
	for n := range 6 {
		b.Keep(n%2, "k", 0, n)
	}
	b.Drop(2)
	is(t, "none", b.Len(), 6)
	b.Drop(1)
	is(t, "one of two", b.Len(), 3)
	is(t, "its own", taken(b.Take(1, cookie(6), "k", 0)), "0 false")
	is(t, "the other's", taken(b.Take(0, cookie(5), "k", 0)), "4 true")
	b.Drop(0)
	is(t, "both", b.Len(), 0)
}

// P26.2: whatever numbers stand for connections, versions and places.
func TestEnds(t *testing.T) {
	b := page.New()
	for _, n := range []int{math.MinInt, -1, 0, math.MaxInt} {
		for _, at := range []int{math.MinInt, -1, 0, math.MaxInt} {
			kept := b.Keep(n, "", n, at)
			is(t, "Take", taken(b.Take(n, kept, "", n)), fmt.Sprint(at, " true"))
		}
	}
	is(t, "Len", b.Len(), 0)
}

// Nil: of a nil book nothing.
func TestNil(t *testing.T) {
	var b *page.Book
	is(t, "Keep", b.Keep(1, "k", 2, 3), "")
	is(t, "Take", taken(b.Take(1, cookie(1), "k", 2)), "0 false")
	is(t, "Take of the empty cookie", taken(b.Take(0, "", "", 0)), "0 false")
	b.Drop(1)
	is(t, "Len", b.Len(), 0)
}

// P26.2, P26.3: books by chance, held against a plain list of places; two books have nothing to do with each other.
func TestSomeBooks(t *testing.T) {
	r := rand.New(rand.NewSource(263))
	good := 0
	for range 300 {
		b, other, l := page.New(), page.New(), &list{}
		var cookies []string
		for range 200 {
			conn, key, version := r.Intn(4), string(rune('a'+r.Intn(8)/7)), r.Intn(8)/7
			switch r.Intn(8) {
			case 0, 1, 2, 3:
				at := r.Intn(1000)
				kept := b.Keep(conn, key, version, at)
				is(t, "Keep", digits(kept), digits(l.keep(conn, key, version, at)))
				cookies = append(cookies, kept)
			case 4, 5, 6:
				c := cookie(r.Intn(300))
				if len(cookies) > 0 && r.Intn(8) > 0 {
					c = cookies[max(0, len(cookies)-1-r.Intn(12))]
				}
				got, ok := b.Take(conn, c, key, version)
				is(t, "Take", taken(got, ok), taken(l.take(conn, c, key, version)))
				if ok {
					good++
					is(t, "once", taken(b.Take(conn, c, key, version)), "0 false")
				}
			default:
				if r.Intn(4) == 0 {
					b.Drop(conn)
					l.drop(conn)
				}
			}
			is(t, "Len", b.Len(), len(l.spots))
			other.Keep(conn, key, version, 1)
		}
	}
	if good < 2000 {
		t.Errorf("too few good ones: %d", good)
	}
}
