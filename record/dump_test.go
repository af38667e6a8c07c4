package record_test

import (
	"fmt"
	"math/rand"
	"slices"
	"strings"
	"testing"

	"castellan/api"
	"castellan/record"
	"castellan/tree"
)

// P17.2: Dump tells the records that add the entries, in order, by names as they are spelt and attributes as they are.
func TestDump(t *testing.T) {
	x := grown(t, added("DC=z", "dc:z"), added("ou=B  b,dc=z"), added("cn=c,OU=b b,dc=z", "b:2,1", "a", "b:1"), added("ou=a,dc=Z", "x:y"))
	want := []string{plain(added("DC=z", "dc:z")), plain(added("ou=a,dc=Z", "x:y")), plain(added("ou=B  b,dc=z")), plain(added("cn=c,OU=b b,dc=z", "b:2,1", "a", "b:1"))}
	before := all(x.View)
	got := record.Dump(x.View)
	is(t, "Dump", strings.Join(got, "|"), strings.Join(want, "|"))
	is(t, "the tree", all(x.View), before)
	got[0] = "spoilt"
	is(t, "again", strings.Join(record.Dump(x.View), "|"), strings.Join(want, "|"))

	x.Do(changed("ou=a,dc=z", "x:z"))
	x.Do(moved("ou=b b,dc=z", "ou=C,ou=a,dc=z", "n:m"))
	want = []string{want[0], plain(added("ou=a,dc=Z", "x:z")), plain(added("ou=C,ou=a,dc=z", "n:m")), plain(added("cn=c,ou=C,ou=a,dc=z", "b:2,1", "a", "b:1"))}
	is(t, "Dump behind updates", strings.Join(record.Dump(x.View), "|"), strings.Join(want, "|"))
	x.Do(deleted("cn=c,ou=c,ou=a,dc=z"))
	is(t, "Dump without one", strings.Join(record.Dump(x.View), "|"), strings.Join(want[:3], "|"))

	is(t, "of no entries", len(record.Dump(grown(t).View)), 0)
	var none *tree.View
	is(t, "of a nil view", len(record.Dump(none)), 0)
}

// P17.2: of an entry that has no record Dump tells the empty text in its place.
func TestDumpOfTooLong(t *testing.T) {
	fits := strings.Repeat("a", api.MaxPdu-3-11-5-5-3-5-5)
	x := grown(t, added("dc=z"), added("cn=a,dc=z", "n:"+fits), added("cn=b,dc=z", "n:"+fits+"a"), added("cn=c,cn=b,dc=z"), added("cn=d,dc=z", "n:m"))
	got := record.Dump(x.View)
	want := []string{plain(added("dc=z")), plain(added("cn=a,dc=z", "n:"+fits)), "", plain(added("cn=c,cn=b,dc=z")), plain(added("cn=d,dc=z", "n:m"))}
	is(t, "how many", len(got), len(want))
	is(t, "all", slices.Equal(got, want), true)
	again := grown(t)
	n, e := record.Replay(again, got...)
	is(t, "Replay stops there", n, 2)
	is(t, "at what is no element", e, api.ErrShort)
	is(t, "with those ahead", again.Len(), 2)
}

// P17.2: Replay does what it can, tells how many, and why not the next one.
func TestReplay(t *testing.T) {
	z, a := plain(added("dc=z")), plain(added("cn=a,dc=z", "x:y"))
	for _, c := range []struct {
		records []string
		count   int
		want    api.Errno
		all     string
	}{
		{nil, 0, api.OK, ""},
		{[]string{}, 0, api.OK, ""},
		{[]string{z}, 1, api.OK, `dc=z []`},
		{[]string{z, a}, 2, api.OK, `dc=z [] | cn=a,dc=z [{"x" ["y"]}]`},
		{[]string{z, a, plain(changed("dc=z", "b:c")), plain(moved("cn=a,dc=z", "cn=B,dc=z")), plain(added("cn=a,dc=z")), plain(deleted("cn=a,dc=z"))}, 6, api.OK, `dc=z [{"b" ["c"]}] | cn=B,dc=z []`},
		// What can't be done
		{[]string{a, z}, 0, api.ErrForm, ""},
		{[]string{z, z, a}, 1, api.ErrForm, `dc=z []`},
		{[]string{z, a, plain(deleted("dc=z")), plain(deleted("cn=a,dc=z"))}, 2, api.ErrForm, `dc=z [] | cn=a,dc=z [{"x" ["y"]}]`},
		{[]string{z, plain(moved("dc=z", "dc=y"))}, 1, api.ErrForm, `dc=z []`},
		{[]string{z, plain(changed("cn=a,dc=z"))}, 1, api.ErrForm, `dc=z []`},
		// What can't be read
		{[]string{""}, 0, api.ErrShort, ""},
		{[]string{z, a[:len(a)-1], a}, 1, api.ErrShort, `dc=z []`},
		{[]string{z, a + "\x00"}, 1, api.ErrForm, `dc=z []`},
		{[]string{z, "\x3f\x00"}, 1, api.ErrTag, `dc=z []`},
		{[]string{z, "\x30\x80"}, 1, api.ErrLen, `dc=z []`},
		{[]string{z, "\x30\x83\x10\x00\x01"}, 1, api.ErrLong, `dc=z []`},
		{[]string{z, deep(65)}, 1, api.ErrDeep, `dc=z []`},
		{[]string{z, "\x30\x00"}, 1, api.ErrForm, `dc=z []`},
		{[]string{z, loose(0x30, kind(2), str("dc=z"))}, 1, api.ErrForm, `dc=z []`},
	} {
		x := grown(t)
		kept := slices.Clone(c.records)
		n, e := record.Replay(x, c.records...)
		is(t, fmt.Sprintf("%.100x: how many", c.records), n, c.count)
		is(t, fmt.Sprintf("%.100x: error", c.records), e, c.want)
		is(t, "entries", all(x.View), c.all)
		is(t, "what was handed in", slices.Equal(c.records, kept), true)
	}
	for _, records := range [][]string{nil, {z}, {"", z}} {
		n, e := record.Replay(nil, records...)
		is(t, "of a nil tree: how many", n, 0)
		is(t, "of a nil tree: error", e, api.ErrNil)
	}
	// It goes on from where the tree stands.
	x := grown(t, added("dc=z"), added("cn=b,dc=z"))
	n, e := record.Replay(x, plain(deleted("cn=b,dc=z")), a)
	is(t, "how many more", n, 2)
	is(t, "error", e, api.OK)
	is(t, "entries", all(x.View), `dc=z [] | cn=a,dc=z [{"x" ["y"]}]`)
}

// P17.3: a tree behind Replay of Dump of another one has its entries; so it has behind the records of what made that.
func TestAgain(t *testing.T) {
	r := rand.New(rand.NewSource(5))
	names := []string{"dc=z", "DC=Z", "cn=a,dc=z", "cn=b,dc=Z", "CN=A,dc=z", "ou=c,cn=a,dc=z", "ou=C  d,CN=A,dc=z", "cn=e,ou=c,cn=a,dc=z", `x=\,+y=\00,cn=b,dc=z`, "cn=a,cn=b,dc=z", ""}
	updates, most := 0, 0
	for range 500 {
		x := grown(t)
		var records []string
		for range 40 {
			u := api.Update{Kind: []int{1, 1, 1, 3, 4, 2}[r.Intn(6)], DN: name(names[r.Intn(len(names))]), To: name(names[r.Intn(len(names))]), Attrs: someAttrs(r)}
			if x.Do(u) == api.Success {
				records = append(records, plain(bare(u)))
				updates++
			}
		}
		most = max(most, x.Len())
		for _, list := range [][]string{record.Dump(x.View), records} {
			other := grown(t)
			n, e := record.Replay(other, list...)
			is(t, "how many", n, len(list))
			is(t, "error", e, api.OK)
			is(t, "entries", all(other.View), all(x.View))
			is(t, "Dump again", slices.Equal(record.Dump(other.View), record.Dump(x.View)), true)
		}
	}
	if updates < 2000 || most < 6 {
		t.Errorf("too little was done: %d updates, and %d entries at most", updates, most)
	}
}

// P17.3: a full tree.
func TestAgainFull(t *testing.T) {
	x := grown(t, added("dc=z"))
	for i := range api.MaxEntries - 1 {
		x.Do(added(fmt.Sprintf("cn=%d,dc=z", i), "n:m"))
	}
	list := record.Dump(x.View)
	is(t, "records", len(list), 4096)
	other := grown(t)
	n, e := record.Replay(other, list...)
	is(t, "how many", n, 4096)
	is(t, "error", e, api.OK)
	is(t, "entries", all(other.View) == all(x.View), true)
	n, e = record.Replay(other, plain(added("cn=x,dc=z")))
	is(t, "no more", n, 0)
	is(t, "error", e, api.ErrForm)
}
