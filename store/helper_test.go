package store_test

import (
	"fmt"
	"math/rand"
	"slices"
	"strings"
	"testing"

	"castellan/api"
	"castellan/disk"
	"castellan/dn"
	"castellan/journal"
	"castellan/record"
	"castellan/store"
	"castellan/tree"
)

// is: a test fails, if something is another thing than was wanted.
func is[T comparable](t *testing.T, what string, got, want T) {
	t.Helper()
	if got != want {
		t.Errorf("%s: %.1000s, wanted %.1000s", what, fmt.Sprint(got), fmt.Sprint(want))
	}
}

// name answers the name of a text.
func name(text string) api.DN {
	d, e := dn.Parse(text)
	if e != api.OK {
		panic(text)
	}
	return d
}

// attrs answers attributes, told as lines: a name, a colon, and values with commas between two.
func attrs(lines ...string) []api.Attr {
	var list []api.Attr
	for _, line := range lines {
		name, values, ok := strings.Cut(line, ":")
		a := api.Attr{Name: name}
		if ok {
			a.Values = strings.Split(values, ",")
		}
		list = append(list, a)
	}
	return list
}

// add, del, change and move answer updates.
func add(d string, lines ...string) api.Update {
	return api.Update{Kind: api.Added, DN: name(d), Attrs: attrs(lines...)}
}

func del(d string) api.Update { return api.Update{Kind: api.Deleted, DN: name(d)} }

func change(d string, lines ...string) api.Update {
	return api.Update{Kind: api.Changed, DN: name(d), Attrs: attrs(lines...)}
}

func move(d, to string, lines ...string) api.Update {
	return api.Update{Kind: api.Moved, DN: name(d), To: name(to), Attrs: attrs(lines...)}
}

// recorded answers the record of an update that has one.
func recorded(u api.Update) string {
	s, e := record.Write(u)
	if e != api.OK {
		panic(fmt.Sprint(e))
	}
	return s
}

// sized answers an update whose record has so many bytes, by a value that is as long as need be.
func sized(bytes int, u api.Update) api.Update {
	u.Attrs = attrs("n:")
	for size := len(recorded(u)); size != bytes; size = len(recorded(u)) {
		value := len(u.Attrs[0].Values[0]) + bytes - size
		u.Attrs[0].Values[0] = strings.Repeat("v", value)
	}
	return u
}

// all answers the entries of a view as a text, in order.
func all(v *tree.View) string {
	var out []string
	for _, id := range v.Scope(v.Find(v.Suffix()), 2) {
		d, list := v.Entry(id)
		text, _ := dn.Print(d)
		out = append(out, fmt.Sprintf("%s %q", text, list))
	}
	return strings.Join(out, " | ")
}

// opened opens a disk that has a tree of the suffix dc=z.
func opened(t *testing.T, d *disk.Disk) *store.Store {
	t.Helper()
	s, e := store.Open(d, name("dc=z"))
	if e != api.OK || s == nil {
		t.Fatalf("Open is %v", e)
	}
	return s
}

// twin answers another disk, on which lasts what lasts on this one.
func twin(d *disk.Disk) *disk.Disk {
	other := disk.New(d.Sectors())
	other.Lay(d.Image())
	return other
}

// again answers the entries that another store finds on the disk, as a text.
func again(t *testing.T, d *disk.Disk) string {
	t.Helper()
	return all(opened(t, twin(d)).View)
}

// holds: the journal on the disk has these records.
func holds(t *testing.T, what string, d *disk.Disk, want ...string) {
	t.Helper()
	_, got, e := journal.Open(twin(d))
	if e != api.OK || !slices.Equal(got, want) {
		t.Errorf("%s: the records are %.1000q, %v, wanted %.1000q", what, got, e, want)
	}
}

// done: updates are done, and last.
func done(t *testing.T, s *store.Store, updates ...api.Update) {
	t.Helper()
	for _, u := range updates {
		code, e := s.Do(u)
		is(t, "Do's code", code, api.Success)
		is(t, "Do's error", e, api.OK)
	}
}

// refused: an update isn't done, and nothing else is: not on the disk either.
func refused(t *testing.T, d *disk.Disk, s *store.Store, u api.Update, code int, errno api.Errno) {
	t.Helper()
	image, gen, left := d.Image(), s.Gen(), s.Left()
	unchanged(t, d, s, u, code, errno)
	is(t, "the disk is the same", d.Image() == image, true)
	is(t, "Gen", s.Gen(), gen)
	is(t, "Left", s.Left(), left)
}

// unchanged: an update isn't done; the entries are as they were, also of another store on the disk.
func unchanged(t *testing.T, d *disk.Disk, s *store.Store, u api.Update, code int, errno api.Errno) {
	t.Helper()
	before, lasts := all(s.View), again(t, d)
	got, e := s.Do(u)
	is(t, fmt.Sprintf("Do's code of %.300v", u), got, code)
	is(t, fmt.Sprintf("Do's error of %.300v", u), e, errno)
	is(t, "the entries", all(s.View), before)
	is(t, "opened again", again(t, d), lasts)
}

// closed: nothing is done any more, whatever it is; and nothing changes.
func closed(t *testing.T, d *disk.Disk, s *store.Store) {
	t.Helper()
	for _, u := range []api.Update{add("cn=new,dc=z"), change("dc=z"), del("cn=none,dc=z"), add("dc=z"), {}, {Kind: api.Added, DN: api.DN{nil}}, change("dc=z", "n:"+strings.Repeat("v", api.MaxRecord))} {
		refused(t, d, s, u, api.Other, api.ErrClosed)
	}
	image := d.Image()
	is(t, "Checkpoint", s.Checkpoint(), api.ErrClosed)
	is(t, "the disk is the same", d.Image() == image, true)
}

// plain is a store said in another way: a tree and a journal, side by side.
type plain struct {
	tree    *tree.Tree
	journal *journal.Journal
	broken  bool
}

// newPlain opens a disk that has a tree of the suffix dc=z; nil, where there is an error.
func newPlain(d *disk.Disk) *plain {
	t, _ := tree.New(name("dc=z"))
	j, records, e := journal.Open(d)
	if e != api.OK {
		return nil
	}
	if n, _ := record.Replay(t, records...); n != len(records) {
		return nil
	}
	return &plain{tree: t, journal: j}
}

// do is Do's words in their order.
func (p *plain) do(u api.Update) (int, api.Errno) {
	if p.broken {
		return 80, 12
	}
	if code := p.tree.Able(u); code != 0 {
		return code, 0
	}
	body, e := record.Write(u)
	if e != 0 || len(body) > 262144 {
		return 80, 0
	}
	e = p.journal.Append(body)
	if e == 11 {
		e = p.journal.Reset(record.Dump(p.tree.View)...)
		if e == 11 || e == 5 {
			return 80, 0
		}
		if e == 0 {
			e = p.journal.Append(body)
		}
		if e == 11 {
			return 80, 0
		}
	}
	if e != 0 {
		p.broken = true
		return 80, e
	}
	return p.tree.Do(u), 0
}

// checkpoint is Checkpoint's words.
func (p *plain) checkpoint() api.Errno {
	e := p.journal.Reset(record.Dump(p.tree.View)...)
	if e != 0 && e != 11 && e != 5 {
		p.broken = true
	}
	return e
}

// names are those that the tests by chance are told of: few, so that they meet, and spelt in several ways.
var names = []string{"dc=z", "DC=Z", "cn=a,dc=z", "cn=b,dc=Z", "CN=A,dc=z", "ou=c,cn=a,dc=z", "ou=C  d,CN=A,dc=z", "cn=e,ou=c,cn=a,dc=z", `x=\,+y=\00,cn=b,dc=z`, "cn=a,cn=b,dc=z", "cn=x,dc=y", ""}

// someName answers one of the names.
func someName(r *rand.Rand) api.DN { return name(names[r.Intn(len(names))]) }

// someUpdate answers an update by chance, whose record has up to some hundred bytes.
func someUpdate(r *rand.Rand) api.Update {
	u := api.Update{Kind: []int{1, 1, 1, 1, 2, 3, 3, 4}[r.Intn(8)], DN: someName(r), To: someName(r)}
	for range r.Intn(3) {
		u.Attrs = append(u.Attrs, api.Attr{Name: "n", Values: []string{"", strings.Repeat("v", r.Intn(200))}})
	}
	if r.Intn(40) == 0 {
		u.Kind = r.Intn(9) - 4
	}
	if r.Intn(40) == 0 {
		u.DN = append(api.DN{nil}, u.DN...)
	}
	return u
}

// someLoss answers a loss of power by chance.
func someLoss(r *rand.Rand) api.Loss {
	return api.Loss{Keep: r.Uint64(), Torn: r.Intn(8) - 3, At: r.Intn(140) - 5}
}
