package store_test

import (
	"fmt"
	"slices"
	"strings"
	"testing"

	"castellan/api"
	"castellan/disk"
	"castellan/journal"
	"castellan/record"
	"castellan/store"
	"castellan/tree"
)

// The chapter's example.
func TestExample(t *testing.T) {
	d := disk.New(40)
	s := opened(t, d)
	done(t, s, add("dc=z"))
	is(t, "it is there", s.Find(name("dc=z")), 1)
	s = opened(t, d)
	is(t, "opened again", all(s.View), "dc=z []")
	is(t, "it is there", s.Find(name("dc=z")), 1)
}

// fails: Open answers no more than this error.
func fails(t *testing.T, what string, d *disk.Disk, suffix api.DN, want api.Errno) {
	t.Helper()
	s, e := store.Open(d, suffix)
	is(t, what, e, want)
	is(t, what+": a store", s != nil, false)
}

// P18.1: the errors of a suffix that is none, ahead of all others, and ahead of any call for the disk.
func TestOpenOfNoSuffix(t *testing.T) {
	dark := disk.New(40)
	dark.Cut(1, api.Loss{})
	dark.Flush()
	spoilt := laid(t, 40, "spoilt")
	image := spoilt.Image()
	for _, c := range []struct {
		suffix api.DN
		want   api.Errno
	}{
		{nil, api.ErrArg}, {api.DN{}, api.ErrArg}, {api.DN{nil}, api.ErrArg}, {slices.Repeat(name("dc=z"), 33), api.ErrMany},
		{api.DN{{{Type: "dc", Value: strings.Repeat("z", 4094)}}}, api.ErrLong}, {api.DN{{{Type: "1", Value: "z"}}}, api.ErrName},
		{api.DN{{{Type: "dc", Value: "z"}, {Type: "DC", Value: "y"}}}, api.ErrTwice},
	} {
		for _, d := range []*disk.Disk{nil, disk.New(0), disk.New(3), disk.New(40), dark, spoilt} {
			fails(t, "Open of no suffix", d, c.suffix, c.want)
		}
	}
	is(t, "nothing is laid anew", spoilt.Image() == image, true)
}

// P18.1: the journal's errors.
func TestOpenOfNoDisk(t *testing.T) {
	fails(t, "Open of nil", nil, name("dc=z"), api.ErrNil)
	for n := -1; n < 4; n++ {
		fails(t, "Open of too few sectors", disk.New(n), name("dc=z"), api.ErrArg)
	}
	opened(t, disk.New(4))
	d := disk.New(40)
	d.Limit(1)
	fails(t, "Open without room", d, name("dc=z"), api.ErrFull)
	d.Cut(1, api.Loss{})
	d.Flush()
	fails(t, "Open without power", d, name("dc=z"), api.ErrPower)
	d.On()
	d.Limit(40)
	for n := 1; n <= 3; n++ { // Flush, Write of the head, Flush
		d.Cut(n, api.Loss{})
		fails(t, "Open at which the power is cut", d, name("dc=z"), api.ErrPower)
		d.On()
	}
	d.Cut(4, api.Loss{})
	is(t, "no entries", opened(t, d).Len(), 0)
}

// laid answers a disk of so many sectors, on which a journal has these records.
func laid(t *testing.T, sectors int, records ...string) *disk.Disk {
	t.Helper()
	d := disk.New(sectors)
	j, _, e := journal.Open(d)
	is(t, "the journal", e, api.OK)
	for _, s := range records {
		is(t, "Append", j.Append(s), api.OK)
	}
	return d
}

// P18.1: the tree has what the records say.
func TestOpen(t *testing.T) {
	for _, c := range []struct {
		updates []api.Update
		all     string
	}{
		{nil, ""},
		{[]api.Update{add("DC=z", "dc:z")}, `DC=z [{"dc" ["z"]}]`},
		{[]api.Update{add("dc=z", "dc:z,y", "a"), add("cn=b,dc=z"), add("ou=a,DC=z", "n:m")}, `dc=z [{"dc" ["z" "y"]} {"a" []}] | cn=b,dc=z [] | ou=a,DC=z [{"n" ["m"]}]`},
		{[]api.Update{add("dc=z"), add("cn=a,dc=z"), add("cn=b,cn=a,dc=z", "n:m"), change("dc=Z", "x:y"), move("CN=a,dc=z", "CN=c,dc=z", "z"), add("cn=a,dc=z"), del("cn=a,dc=z")}, `dc=z [{"x" ["y"]}] | CN=c,dc=z [{"z" []}] | cn=b,CN=c,dc=z [{"n" ["m"]}]`},
		{[]api.Update{add("dc=z"), del("dc=z")}, ""},
	} {
		var records []string
		for _, u := range c.updates {
			records = append(records, recorded(u))
		}
		d := laid(t, 60, records...)
		s := opened(t, d)
		is(t, "the entries", all(s.View), c.all)
		is(t, "Gen", s.Gen(), 2)
		is(t, "Left", s.Left(), 29-len(records))
		holds(t, "as they were", d, records...)
		suffix, e := store.Open(twin(d), name("DC=z"))
		is(t, "by another spelling", e, api.OK)
		is(t, "the entries", suffix != nil && all(suffix.View) == c.all, true)
	}
	s, e := store.Open(disk.New(4), name("ou=A  b+cn=C,dc=Z"))
	is(t, "Open", e, api.OK)
	is(t, "Suffix", fmt.Sprint(s.Suffix()), fmt.Sprint(name("ou=A  b+cn=C,dc=Z")))
}

// P18.1: the errors of records that can't be done.
func TestOpenOfWrongRecords(t *testing.T) {
	z, a := recorded(add("dc=z")), recorded(add("cn=a,dc=z"))
	for _, c := range []struct {
		records []string
		want    api.Errno
	}{
		{[]string{""}, api.ErrShort}, {[]string{z, a[:len(a)-1]}, api.ErrShort}, {[]string{z, a + "\x00"}, api.ErrForm}, {[]string{z, "\x30\x00", ""}, api.ErrForm},
		{[]string{"\x3f\x00"}, api.ErrTag}, {[]string{z, "\x30\x80"}, api.ErrLen}, {[]string{z, "\x30\x83\x10\x00\x01"}, api.ErrLong}, {[]string{strings.Repeat("\x30\x80", 70), ""}, api.ErrLen},
		{[]string{a}, api.ErrForm}, {[]string{z, z}, api.ErrForm}, {[]string{z, a, recorded(del("dc=z"))}, api.ErrForm}, {[]string{recorded(add("dc=y"))}, api.ErrForm}, {[]string{recorded(add(""))}, api.ErrForm},
	} {
		d := laid(t, 60, c.records...)
		fails(t, fmt.Sprintf("Open of %.100x", c.records), d, name("dc=z"), c.want)
		holds(t, "as they were", d, c.records...)
	}
	d := laid(t, 60, z, a)
	fails(t, "of another suffix", d, name("dc=y"), api.ErrForm)
	fails(t, "of a lower suffix", d, name("cn=a,dc=z"), api.ErrForm)
	is(t, "of its own", all(opened(t, d).View), "dc=z [] | cn=a,dc=z []")
}

// P18.2: each kind of update: it is done, and its record is the journal's last one.
func TestDo(t *testing.T) {
	d := disk.New(60)
	s := opened(t, d)
	var records []string
	for _, c := range []struct {
		u   api.Update
		all string
	}{
		{add("DC=z", "dc:z"), `DC=z [{"dc" ["z"]}]`},
		{add("cn=A,dc=z", "cn:a,A,a", "b", "cn"), `DC=z [{"dc" ["z"]}] | cn=A,dc=z [{"cn" ["a" "A" "a"]} {"b" []} {"cn" []}]`},
		{add(`sn=\ ,cn=a,dc=Z`, ":,"), `DC=z [{"dc" ["z"]}] | cn=A,dc=z [{"cn" ["a" "A" "a"]} {"b" []} {"cn" []}] | sn=\ ,cn=a,dc=Z [{"" ["" ""]}]`},
		{change("CN=a,dc=z", "x:\x00\xff"), `DC=z [{"dc" ["z"]}] | cn=A,dc=z [{"x" ["\x00\xff"]}] | sn=\ ,cn=a,dc=Z [{"" ["" ""]}]`},
		{move("cn=a,dc=z", "OU=b+cn=a,dC=z", "y:z"), `DC=z [{"dc" ["z"]}] | OU=b+cn=a,dC=z [{"y" ["z"]}] | sn=\ ,OU=b+cn=a,dC=z [{"" ["" ""]}]`},
		{change("dc=z"), `DC=z [] | OU=b+cn=a,dC=z [{"y" ["z"]}] | sn=\ ,OU=b+cn=a,dC=z [{"" ["" ""]}]`},
		{del(`SN=\ ,cn=A+ou=b,dc=z`), `DC=z [] | OU=b+cn=a,dC=z [{"y" ["z"]}]`},
		{move("cn=A+ou=b,dc=z", "cn=A+ou=b,dc=z"), `DC=z [] | cn=A+ou=b,dc=z []`},
		{del("cn=a+ou=B,dc=z"), `DC=z []`},
		{del("dc=z"), ""},
		{add("dc=z"), `dc=z []`},
	} {
		view, left := s.View, s.Left()
		done(t, s, c.u)
		records = append(records, recorded(c.u))
		is(t, "the entries", all(s.View), c.all)
		is(t, "the view stays", s.View == view, true)
		is(t, "opened again", again(t, d), c.all)
		holds(t, "the records", d, records...)
		is(t, "Gen", s.Gen(), 1)
		is(t, "Left", s.Left(), left-1)
	}
}

// P18.2: what the kind doesn't have plays no part, however long it is.
func TestDoOfMore(t *testing.T) {
	long, many := attrs("n:"+strings.Repeat("v", 2*api.MaxPdu)), slices.Repeat(name("cn=a"), 33)
	d := disk.New(60)
	s := opened(t, d)
	u := add("dc=z", "n:m")
	u.To = many
	done(t, s, u)
	u = change("dc=z", "n:o")
	u.To = many
	done(t, s, u)
	is(t, "the entries", all(s.View), `dc=z [{"n" ["o"]}]`)
	u = del("dc=z")
	u.To, u.Attrs = many, long
	done(t, s, u)
	is(t, "the entries", all(s.View), "")
	holds(t, "the records", d, recorded(add("dc=z", "n:m")), recorded(change("dc=z", "n:o")), recorded(del("dc=z")))
}

// P18.2: the tree's code of what can't be done, ahead of a record that is none, and of a disk without room or power.
func TestDoOfWhatCannotBe(t *testing.T) {
	d := disk.New(60)
	s := opened(t, d)
	long := "n:" + strings.Repeat("v", 2*api.MaxPdu)
	refused(t, d, s, add("cn=a,dc=z"), api.NoSuchObject, api.OK)
	done(t, s, add("dc=z"), add("cn=a,dc=z"), add("cn=b,cn=a,dc=z"))
	for range 2 {
		for _, c := range []struct {
			u    api.Update
			want int
		}{
			{api.Update{}, api.OperationsErr}, {api.Update{Kind: 5, DN: name("dc=z")}, api.OperationsErr}, {api.Update{Kind: -1, DN: name("dc=z"), Attrs: attrs(long)}, api.OperationsErr},
			{api.Update{Kind: api.Added, DN: api.DN{nil}}, api.InvalidDN}, {api.Update{Kind: api.Added, DN: slices.Repeat(name("dc=z"), 33)}, api.InvalidDN},
			{add("dc=Z", long), api.EntryExists}, {add("cn=c,cn=d,dc=z", long), api.NoSuchObject}, {add("dc=y"), api.NoSuchObject},
			{del("cn=c,dc=z"), api.NoSuchObject}, {del("dc=z"), api.NotOnNonLeaf}, {change("cn=c,dc=z", long), api.NoSuchObject}, {api.Update{Kind: api.Changed, DN: api.DN{nil}}, api.NoSuchObject},
			{move("cn=c,dc=z", "cn=d,dc=z", long), api.NoSuchObject}, {move("dc=z", "dc=y", long), api.Unwilling}, {api.Update{Kind: api.Moved, DN: name("cn=a,dc=z"), To: api.DN{nil}}, api.InvalidDN},
			{move("cn=a,dc=z", "cn=c,cn=b,cn=a,dc=z"), api.Unwilling}, {move("cn=a,dc=z", "cn=a,cn=c,dc=z"), api.NoSuchObject}, {move("cn=b,cn=a,dc=z", "cn=a,dc=z"), api.EntryExists},
		} {
			refused(t, d, s, c.u, c.want, api.OK)
		}
		d.Limit(0)
	}
	d.Cut(1, api.Loss{})
	d.Flush()
	code, e := s.Do(add("dc=z"))
	is(t, "without power: the code", code, api.EntryExists)
	is(t, "without power: no error", e, api.OK)
	code, e = s.Do(change("dc=z", long))
	is(t, "no record, without power: the code", code, api.Other)
	is(t, "no record, without power: no error", e, api.OK)
	d.On()
	d.Limit(60)
	done(t, s, change("dc=z", "n:m"))
}

// P18.2: the tree is full.
func TestDoOfTooMany(t *testing.T) {
	var records []string
	for i := range api.MaxEntries - 1 {
		u := add("dc=z")
		if i > 0 {
			u = add(fmt.Sprintf("cn=%d,dc=z", i))
		}
		records = append(records, recorded(u))
	}
	d := laid(t, api.MaxSectors, records...) // it is full
	s := opened(t, d)
	is(t, "Len", s.Len(), 4095)
	is(t, "Left", s.Left(), 0)
	// There is room for an entry in the tree, but none for its record in the half.
	gen := s.Gen()
	unchanged(t, d, s, add("cn=x,dc=z"), api.Other, api.OK)
	is(t, "laid anew", s.Gen(), gen+1)
	unchanged(t, d, s, del("cn=1,dc=z"), api.Other, api.OK)
	is(t, "laid anew", s.Gen(), gen+2)
	holds(t, "all of them", d, record.Dump(s.View)...)
}

// P18.2: a record may have MaxRecord bytes; of one that has more, and of an update that has none, nothing is written.
func TestDoOfTooLong(t *testing.T) {
	d := disk.New(api.MaxSectors)
	s := opened(t, d)
	done(t, s, add("dc=z"), add("cn=a,dc=z"))
	for _, u := range []api.Update{change("dc=z"), add("cn=b,dc=z"), move("cn=a,dc=z", "cn=c,dc=z")} {
		for _, bytes := range []int{api.MaxRecord + 1, api.MaxRecord + 2, 2 * api.MaxRecord, api.MaxPdu - 100} {
			refused(t, d, s, sized(bytes, u), api.Other, api.OK)
		}
		u.Attrs = attrs("n:" + strings.Repeat("v", api.MaxPdu))
		refused(t, d, s, u, api.Other, api.OK)
		is(t, "Checkpoint", s.Checkpoint(), api.OK)
		left := s.Left()
		u = sized(api.MaxRecord, u)
		done(t, s, u)
		is(t, "its sectors", left-s.Left(), 2384)
		at := u.DN
		if u.Kind == api.Moved {
			at = u.To
		}
		_, got := s.Entry(s.Find(at))
		is(t, "it is there", fmt.Sprint(got) == fmt.Sprint(u.Attrs), true)
		is(t, "it lasts", again(t, d) == all(s.View), true)
		done(t, s, change("dc=z"), del(map[int]string{api.Changed: "cn=a,dc=z", api.Added: "cn=b,dc=z", api.Moved: "cn=c,dc=z"}[u.Kind]))
		if u.Kind == api.Changed {
			done(t, s, add("cn=a,dc=z"))
		}
	}
}

// P18.2, P18.3: of a nil store.
func TestNil(t *testing.T) {
	var s *store.Store
	for _, u := range []api.Update{{}, add("dc=z"), {Kind: 7, DN: api.DN{nil}}, change("dc=z", "n:"+strings.Repeat("v", api.MaxPdu))} {
		code, e := s.Do(u)
		is(t, "Do's code", code, api.OperationsErr)
		is(t, "Do's error", e, api.ErrNil)
	}
	is(t, "Checkpoint", s.Checkpoint(), api.ErrNil)
	is(t, "Left", s.Left(), 0)
	is(t, "Gen", s.Gen(), 0)
}

// P18.1: the store's view is the tree's: by it all can be looked at, and it goes with what is done.
func TestView(t *testing.T) {
	s := opened(t, disk.New(60))
	var v *tree.View = s.View
	done(t, s, add("dc=z", "dc:z"), add("cn=b,dc=z"), add("cn=a,dc=z", "cn:a"))
	is(t, "Len", v.Len(), 3)
	is(t, "Len", s.Len(), 3)
	is(t, "Find", s.Find(name("CN=a,dc=z")), 3)
	d, list := s.Entry(3)
	is(t, "Entry", fmt.Sprint(d, list), fmt.Sprint(name("cn=a,dc=z"), attrs("cn:a")))
	is(t, "Kids", s.Kids(1), 2)
	is(t, "Matched", fmt.Sprint(s.Matched(name("cn=c,cn=b,dc=z"))), fmt.Sprint(name("cn=b,dc=z")))
	is(t, "Scope", fmt.Sprint(s.Scope(1, 2)), "[1 3 2]")
	is(t, "Able", s.Able(del("dc=z")), api.NotOnNonLeaf)
	is(t, "Suffix", fmt.Sprint(s.Suffix()), fmt.Sprint(name("dc=z")))
	done(t, s, del("cn=a,dc=z"))
	is(t, "Len", v.Len(), 2)
	is(t, "Find", v.Find(name("cn=a,dc=z")), 0)
	is(t, "Entries", all(v), `dc=z [{"dc" ["z"]}] | cn=b,dc=z []`)
}

// Of what is handed in nothing is kept, and nothing is changed, spare room included.
func TestMemory(t *testing.T) {
	rdns := []api.RDN{{{Type: "dc", Value: "z"}, {Type: "room"}}, {{Type: "cn", Value: "a"}, {Type: "room"}}}
	suffix := api.DN{rdns[0][:1], {{Type: "room"}}}
	d, to := api.DN{rdns[1][:1], rdns[0][:1], {{Type: "room"}}}, api.DN{{{Type: "cn", Value: "b"}}, rdns[0][:1], {{Type: "room"}}}
	values := []string{"x", "room"}
	list := []api.Attr{{Name: "n", Values: values[:1]}, {Name: "room"}}
	told := func() string { return fmt.Sprintf("%q", []any{rdns, suffix, d, to, values, list}) }
	before := told()

	x := disk.New(60)
	s, e := store.Open(x, suffix[:1])
	is(t, "Open", e, api.OK)
	done(t, s, api.Update{Kind: api.Added, DN: suffix[:1], Attrs: list[:1]}, api.Update{Kind: api.Added, DN: d[:2]}, api.Update{Kind: api.Changed, DN: d[:2], Attrs: list[:1]},
		api.Update{Kind: api.Moved, DN: d[:2], To: to[:2], Attrs: list[:1]}, api.Update{Kind: api.Added, DN: d[:2], Attrs: list[:1]})
	is(t, "Checkpoint", s.Checkpoint(), api.OK)
	is(t, "what was handed in", told(), before)

	want := `dc=z [{"n" ["x"]}] | cn=a,dc=z [{"n" ["x"]}] | cn=b,dc=z [{"n" ["x"]}]`
	is(t, "the entries", all(s.View), want)
	spoil(rdns...)
	spoil(to[0])
	d[0], to[1], suffix[0] = nil, nil, nil
	values[0], list[0] = "spoilt", api.Attr{Name: "spoilt"}
	is(t, "the entries", all(s.View), want)
	for _, id := range s.Scope(1, 2) {
		name, attrs := s.Entry(id)
		spoil(name...)
		attrs[0].Values[0] = "spoilt"
		attrs[0] = api.Attr{Name: "spoilt"}
	}
	is(t, "the entries", all(s.View), want)
	is(t, "Checkpoint", s.Checkpoint(), api.OK)
	is(t, "opened again", again(t, x), want)
}

// spoil writes over RDNs.
func spoil(rdns ...api.RDN) {
	for _, rdn := range rdns {
		for i := range rdn {
			rdn[i] = api.AVA{Type: "spoilt", Value: "spoilt"}
		}
	}
}
