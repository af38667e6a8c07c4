package record_test

import (
	"fmt"
	"math/rand"
	"slices"
	"strings"
	"testing"

	"castellan/api"
	"castellan/dn"
	"castellan/tree"
)

// is: a test fails, if something is another thing than was wanted.
func is[T comparable](t *testing.T, what string, got, want T) {
	t.Helper()
	if got != want {
		t.Errorf("%s: %.2000v, wanted %.2000v", what, got, want)
	}
}

// said answers an update as a text in which nothing is left out; lists without elements are alike.
func said(u api.Update) string {
	return strings.ReplaceAll(fmt.Sprintf("%#v", u), "(nil)", "{}")
}

// nobody is an update that has nothing.
var nobody = said(api.Update{})

// name answers the name of a text.
func name(text string) api.DN {
	d, e := dn.Parse(text)
	if e != api.OK {
		panic(text)
	}
	return d
}

// text answers the text of a name that can be printed.
func text(d api.DN) string {
	s, e := dn.Print(d)
	if e != api.OK {
		panic(fmt.Sprint(e))
	}
	return s
}

// attrs answers attributes, told as lines: a name, a colon, and values with commas between two.
func attrs(lines ...string) []api.Attr {
	var list []api.Attr
	for _, line := range lines {
		name, values, ok := strings.Cut(line, ":")
		a := api.Attr{Name: name}
		if ok {
			a.Values = strings.Split(values, ",")
		}
		list = append(list, a)
	}
	return list
}

// added, deleted, changed and moved answer updates.
func added(d string, lines ...string) api.Update {
	return api.Update{Kind: 1, DN: name(d), Attrs: attrs(lines...)}
}

func deleted(d string) api.Update { return api.Update{Kind: 2, DN: name(d)} }

func changed(d string, lines ...string) api.Update {
	return api.Update{Kind: 3, DN: name(d), Attrs: attrs(lines...)}
}

func moved(d, to string, lines ...string) api.Update {
	return api.Update{Kind: 4, DN: name(d), To: name(to), Attrs: attrs(lines...)}
}

// el answers the bytes of an element, its length in as few bytes as can be.
func el(tag byte, parts ...string) string {
	data := strings.Join(parts, "")
	n := len(data)
	front := []byte{tag}
	switch {
	case n < 1<<7:
		front = append(front, byte(n))
	case n < 1<<8:
		front = append(front, 0x81, byte(n))
	case n < 1<<16:
		front = append(front, 0x82, byte(n>>8), byte(n))
	default:
		front = append(front, 0x83, byte(n>>16), byte(n>>8), byte(n))
	}
	return string(front) + data
}

// loose answers the bytes of an element with its length in four bytes.
func loose(tag byte, parts ...string) string {
	data := strings.Join(parts, "")
	n := len(data)
	return string([]byte{tag, 0x84, byte(n >> 24), byte(n >> 16), byte(n >> 8), byte(n)}) + data
}

// str and kind answer the elements of a text and of a small number.
func str(s string) string    { return el(4, s) }
func kind(number int) string { return el(2, string([]byte{byte(number)})) }

// list answers the elements of an attribute's parts.
func list(name string, values ...string) string {
	var all strings.Builder
	for _, v := range values {
		all.WriteString(str(v))
	}
	return el(0x30, str(name), el(0x31, all.String()))
}

// plain answers the record of an update that has one, said in another way.
func plain(u api.Update) string {
	out := kind(u.Kind) + str(text(u.DN))
	if u.Kind == 4 {
		out += str(text(u.To))
	}
	var all strings.Builder
	for _, a := range u.Attrs {
		all.WriteString(list(a.Name, a.Values...))
	}
	if u.Kind != 2 {
		out += el(0x30, all.String())
	}
	return el(0x30, out)
}

// scanner goes through bytes that may be a record, strictly; bad, if they are none.
type scanner struct {
	left string
	bad  bool
}

// take answers the bytes of an element of that tag.
func (s *scanner) take(tag byte) string {
	for at := 2; at <= 5 && at <= len(s.left); at++ {
		n := int(s.left[1])
		if at > 2 {
			n = 0
			for _, c := range []byte(s.left[2:at]) {
				n = n<<8 | int(c)
			}
		}
		// The front is as the writer's, or the bytes are none.
		if at+n <= len(s.left) && s.left[:at+n] == el(tag, s.left[at:at+n]) {
			data := s.left[at : at+n]
			s.left = s.left[at+n:]
			return data
		}
	}
	s.bad = true
	return ""
}

// name answers the name of an element whose text is the name's.
func (s *scanner) name() api.DN {
	data := s.take(4)
	d, e := dn.Parse(data)
	if e != api.OK || text(d) != data {
		s.bad = true
	}
	return d
}

// plainRead answers the update of a record, read in another way, and whether it is one.
func plainRead(record string) (api.Update, bool) {
	outer := &scanner{left: record}
	s := &scanner{left: outer.take(0x30)}
	k := s.take(2)
	if outer.bad || outer.left != "" || len(k) != 1 || k[0] < 1 || k[0] > 4 {
		return api.Update{}, false
	}
	u := api.Update{Kind: int(k[0]), DN: s.name()}
	if u.Kind == 4 {
		u.To = s.name()
	}
	if u.Kind != 2 {
		all := &scanner{left: s.take(0x30)}
		for all.left != "" && !all.bad {
			one := &scanner{left: all.take(0x30)}
			a := api.Attr{Name: one.take(4)}
			values := &scanner{left: one.take(0x31)}
			for values.left != "" && !values.bad {
				a.Values = append(a.Values, values.take(4))
			}
			u.Attrs = append(u.Attrs, a)
			s.bad = s.bad || all.bad || one.bad || one.left != "" || values.bad
		}
		s.bad = s.bad || all.bad
	}
	if s.bad || s.left != "" {
		return api.Update{}, false
	}
	return u, true
}

// grown answers a tree of the suffix dc=z with these entries.
func grown(t *testing.T, updates ...api.Update) *tree.Tree {
	t.Helper()
	x, e := tree.New(name("dc=z"))
	if e != api.OK {
		t.Fatal(e)
	}
	for _, u := range updates {
		if code := x.Do(u); code != api.Success {
			t.Fatalf("Do of %s is %d", said(u), code)
		}
	}
	return x
}

// all answers the entries of a view as texts, in order.
func all(v *tree.View) string {
	var out []string
	for _, id := range v.Scope(v.Find(v.Suffix()), 2) {
		d, list := v.Entry(id)
		out = append(out, fmt.Sprintf("%s %q", text(d), list))
	}
	return strings.Join(out, " | ")
}

// someText answers a short text, or one about where lengths need more bytes.
func someText(r *rand.Rand) string {
	if r.Intn(10) == 0 {
		return strings.Repeat("x", []int{120, 127, 128, 250, 256, 300}[r.Intn(6)])
	}
	return []string{"", "a", "A", "\x00", "\xff", ",", " b ", "#", "30"}[r.Intn(9)]
}

// someName answers a name by chance.
func someName(r *rand.Rand) api.DN {
	var d api.DN
	for range r.Intn(4) {
		var rdn api.RDN
		for _, i := range r.Perm(3)[:1+r.Intn(2)] {
			rdn = append(rdn, api.AVA{Type: []string{"cn", "OU", "x-1"}[i], Value: someText(r)})
		}
		d = append(d, rdn)
	}
	return d
}

// someAttrs answers attributes by chance.
func someAttrs(r *rand.Rand) []api.Attr {
	var out []api.Attr
	for range r.Intn(4) {
		a := api.Attr{Name: someText(r)}
		for range r.Intn(4) {
			a.Values = append(a.Values, someText(r))
		}
		out = append(out, a)
	}
	return out
}

// someUpdate answers an update by chance, with all that an update can have.
func someUpdate(r *rand.Rand) api.Update {
	return api.Update{Kind: 1 + r.Intn(4), DN: someName(r), To: someName(r), Attrs: someAttrs(r)}
}

// bare answers an update without what plays no part, said in another way.
func bare(u api.Update) api.Update {
	switch u.Kind {
	case 4:
	case 2:
		u.To, u.Attrs = nil, nil
	default:
		u.To = nil
	}
	return u
}

// tooLong answers a name that can't be printed for its length.
func tooLong() api.DN { return api.DN{{{Type: "cn", Value: strings.Repeat("a", 4094)}}} }

// tooMany answers a name that can't be printed for its RDNs.
func tooMany() api.DN { return slices.Repeat(name("cn=a"), 33) }
