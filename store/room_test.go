package store_test

import (
	"fmt"
	"strings"
	"testing"

	"castellan/api"
	"castellan/disk"
	"castellan/record"
	"castellan/store"
)

// grown answers a store on a disk of so many sectors, by whose records all sectors of a half are used: behind those of
// the suffix's entry and the others, each changes the attributes of the suffix's.
func grown(t *testing.T, sectors int, others ...string) (*disk.Disk, *store.Store) {
	t.Helper()
	d := disk.New(sectors)
	s := opened(t, d)
	done(t, s, add("dc=z"))
	for _, other := range others {
		done(t, s, add(other))
	}
	for i := range s.Left() {
		done(t, s, change("dc=z", fmt.Sprint("n:", i)))
	}
	is(t, "Left", s.Left(), 0)
	is(t, "Gen", s.Gen(), 1)
	return d, s
}

// P18.2: where there is no room for a record, the journal has the entries alone, and that record behind them.
func TestDoLaysAnew(t *testing.T) {
	for _, u := range []api.Update{add("cn=b,dc=z", "x:y"), change("cn=a,dc=z", "x:y"), del("cn=a,dc=z"), move("cn=a,dc=z", "cn=c,dc=z", "x")} {
		d, s := grown(t, 22, "cn=a,dc=z")
		records := append(record.Dump(s.View), recorded(u))
		view := s.View
		done(t, s, u)
		is(t, "Gen", s.Gen(), 2)
		is(t, "Left", s.Left(), 7)
		is(t, "the view stays", s.View == view, true)
		holds(t, "the records", d, records...)
		is(t, "opened again", again(t, d), all(s.View))
		done(t, s, add("cn=d,dc=z"))
		is(t, "Gen", s.Gen(), 2)
		holds(t, "the records", d, append(records, recorded(add("cn=d,dc=z")))...)
	}
}

// P18.2: a record that needs just the sectors that are left is appended; one that needs a sector more isn't, without the
// journal laid anew.
func TestDoWithJustTheRoom(t *testing.T) {
	for _, more := range []int{0, 1} {
		d := disk.New(22) // halves of ten
		s := opened(t, d)
		done(t, s, add("dc=z"), change("dc=z", "n:m"), change("dc=z", "n:o"))
		u := sized(7*110+more, change("dc=z"))
		records := []string{recorded(add("dc=z")), recorded(change("dc=z", "n:m")), recorded(change("dc=z", "n:o"))}
		if more > 0 {
			records = []string{recorded(add("dc=z", "n:o"))}
		}
		done(t, s, u)
		is(t, "Gen", s.Gen(), 1+more)
		is(t, "Left", s.Left(), more)
		holds(t, "the records", d, append(records, recorded(u))...)
	}
}

// P18.2: where there is no room for a record behind the entries either, nothing is done but that they are laid anew;
// with room again all is done.
func TestDoWithoutRoomBehindTheEntries(t *testing.T) {
	d, s := grown(t, 22, "cn=a,dc=z")
	for i, u := range []api.Update{sized(8*110+1, add("cn=b,dc=z")), sized(2000, change("cn=a,dc=z")), sized(900, move("cn=a,dc=z", "cn=c,dc=z"))} {
		unchanged(t, d, s, u, api.Other, api.OK)
		is(t, "Gen", s.Gen(), 2+i)
		is(t, "Left", s.Left(), 8)
		holds(t, "the records", d, record.Dump(s.View)...)
	}
	done(t, s, sized(8*110, add("cn=b,dc=z")))
	is(t, "Gen", s.Gen(), 4)
	is(t, "Left", s.Left(), 0)
	// The entries fill the half: there is no room for a Deleted one's record.
	unchanged(t, d, s, del("cn=b,dc=z"), api.Other, api.OK)
	is(t, "Gen", s.Gen(), 5)
	unchanged(t, d, s, del("cn=b,dc=z"), api.Other, api.OK)
	is(t, "Gen", s.Gen(), 6)
}

// P18.2: where there is no room for the entries, nothing is done, also not on the disk.
func TestDoWithoutRoomForTheEntries(t *testing.T) {
	d, s := grown(t, 22, "cn=a,dc=z")
	// Half 1 begins at sector 12: behind two entries one more sector is needed.
	for limit := range 14 {
		d.Limit(limit)
		refused(t, d, s, add("cn=b,dc=z"), api.Other, api.OK)
		refused(t, d, s, del("cn=a,dc=z"), api.Other, api.OK)
	}
	d.Limit(14)
	unchanged(t, d, s, add("cn=b,dc=z"), api.Other, api.OK)
	is(t, "Gen", s.Gen(), 2)
	d.Limit(15) // of half 0 all sectors
	done(t, s, add("cn=b,dc=z"))
	is(t, "Gen", s.Gen(), 2)
	is(t, "Left", s.Left(), 0)
	done(t, s, add("cn=c,dc=z"))
	is(t, "Gen", s.Gen(), 3)
	is(t, "opened again", again(t, d), all(s.View))
}

// As the document's ninth example has it: the disk is full: Other, and nothing is there; with room again: Success.
func TestDoWithRoomAgain(t *testing.T) {
	for limit := range 4 {
		d := disk.New(40)
		s := opened(t, d)
		done(t, s, add("dc=z"))
		d.Limit(limit)
		refused(t, d, s, add("cn=a,dc=z"), api.Other, api.OK)
		d.Limit(40)
		done(t, s, add("cn=a,dc=z"))
		is(t, "opened again", again(t, d), "dc=z [] | cn=a,dc=z []")
		is(t, "Gen", s.Gen(), 1)
	}
}

// P18.2, P18.3: an entry whose record would be too long, though that of its update wasn't: by the name as it is spelt.
func TestEntryThatIsTooLong(t *testing.T) {
	d := disk.New(api.MaxSectors)
	s := opened(t, d)
	wide := add("cn=a" + strings.Repeat(" ", 1000) + "b,dc=z")
	narrow := change("cn=a b,dc=z")
	done(t, s, add("dc=z"), wide)
	narrow.Attrs = sized(api.MaxRecord, wide).Attrs
	done(t, s, narrow)
	is(t, "Checkpoint of as long a record as may be", s.Checkpoint(), api.OK)
	done(t, s, change("cn=a b,dc=z"))
	is(t, "Checkpoint", s.Checkpoint(), api.OK)
	narrow.Attrs = sized(api.MaxRecord+1, wide).Attrs
	done(t, s, narrow)

	gen, image, before := s.Gen(), d.Image(), all(s.View)
	is(t, "Checkpoint of a byte more", s.Checkpoint(), api.ErrLong)
	is(t, "Gen", s.Gen(), gen)
	is(t, "the disk is the same", d.Image() == image, true)
	is(t, "the entries are the same", all(s.View) == before, true)
	// There is no room for it, and the journal can't be laid anew: but nothing is closed by that.
	refused(t, d, s, sized(api.MaxRecord, add("cn=c,dc=z")), api.Other, api.OK)
	done(t, s, add("cn=c,dc=z", "n:m"))
	is(t, "Gen", s.Gen(), gen)
	is(t, "opened again", again(t, d) == all(s.View), true)
	// With shorter attributes it can be.
	done(t, s, change("cn=a b,dc=z"))
	is(t, "Checkpoint of shorter ones", s.Checkpoint(), api.OK)
	is(t, "Gen", s.Gen(), gen+1)
	holds(t, "the records", d, record.Dump(s.View)...)
}

// P18.3: Checkpoint: the journal has the entries alone.
func TestCheckpoint(t *testing.T) {
	d := disk.New(60)
	s := opened(t, d)
	is(t, "Checkpoint of nothing", s.Checkpoint(), api.OK)
	is(t, "Gen", s.Gen(), 2)
	is(t, "Left", s.Left(), 29)
	holds(t, "no records", d)
	done(t, s, add("DC=z"), add("ou=b,dc=z"), add("cn=a,ou=b,dc=z", "cn:a"), add("ou=a,dc=z"), move("ou=b,dc=z", "ou=x,ou=a,dc=z"), change("dc=z", "x:y,z"))
	is(t, "Left", s.Left(), 23)
	before := all(s.View)
	want := []string{recorded(add("DC=z", "x:y,z")), recorded(add("ou=a,dc=z")), recorded(add("ou=x,ou=a,dc=z")), recorded(add("cn=a,ou=x,ou=a,dc=z", "cn:a"))}
	for i := range 4 {
		is(t, "Checkpoint", s.Checkpoint(), api.OK)
		is(t, "Gen", s.Gen(), 3+i)
		is(t, "Left", s.Left(), 25)
		is(t, "the entries", all(s.View), before)
		holds(t, "the records", d, want...)
		is(t, "opened again", again(t, d), before)
	}
	done(t, s, del("cn=a,ou=x,ou=a,dc=z"))
	holds(t, "the records", d, append(want, recorded(del("cn=a,ou=x,ou=a,dc=z")))...)
}

// P18.3: Checkpoint without room: nothing is changed, and nothing closed.
func TestCheckpointWithoutRoom(t *testing.T) {
	d := disk.New(22)
	s := opened(t, d)
	done(t, s, add("dc=z"), add("cn=a,dc=z"))
	for limit := range 14 {
		d.Limit(limit)
		image := d.Image()
		is(t, "Checkpoint", s.Checkpoint(), api.ErrFull)
		is(t, "the disk is the same", d.Image() == image, true)
		is(t, "Gen", s.Gen(), 1)
	}
	d.Limit(14)
	is(t, "Checkpoint", s.Checkpoint(), api.OK)
	is(t, "Left", s.Left(), 0)
	is(t, "Gen", s.Gen(), 2)
	// In half 0 there is room; the entries are more than a half has.
	d.Limit(22)
	done(t, s, sized(8*110, add("cn=b,dc=z")))
	is(t, "Checkpoint", s.Checkpoint(), api.OK)
	is(t, "Gen", s.Gen(), 3)
	is(t, "Left", s.Left(), 0)
	is(t, "opened again", again(t, d), all(s.View))
}

// P18.3: Left is as much as the disk's room lets it be.
func TestLeft(t *testing.T) {
	d := disk.New(22)
	s := opened(t, d)
	done(t, s, add("dc=z"))
	for _, c := range []struct{ limit, left int }{{0, 0}, {2, 0}, {3, 0}, {4, 1}, {11, 8}, {12, 9}, {13, 9}, {22, 9}} {
		d.Limit(c.limit)
		is(t, "Left", s.Left(), c.left)
	}
	d.Crash(api.Loss{Torn: -1})
	s = opened(t, d)
	is(t, "Gen behind Open", s.Gen(), 2)
	is(t, "Left behind Open", s.Left(), 9)
}
