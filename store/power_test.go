package store_test

import (
	"fmt"
	"math"
	"math/rand"
	"strings"
	"testing"

	"castellan/api"
	"castellan/disk"
	"castellan/store"
	"castellan/tree"
)

// steps lead through both halves of a disk of 16 sectors several times; an update of no Kind stands for Checkpoint.
func steps() []api.Update {
	long := "n:" + strings.Repeat("v", 150)
	return []api.Update{
		add("dc=z", "dc:z"), add("cn=a,dc=z"), change("dc=z", "n:m"), move("cn=a,dc=z", "cn=b,dc=z"), add("ou=c,cn=b,dc=z"), change("dc=z"), add("cn=a,dc=z"), // the half is full
		change("cn=b,dc=z", "x:y"), del("cn=a,dc=z"), {}, change("ou=c,cn=b,dc=z", long), move("cn=b,dc=z", "cn=B,dc=z", "x:z"), del("ou=c,cn=b,dc=z"), {}, {},
		add("cn=d,dc=z", long, long), change("dc=z", "n:o"), del("cn=B,dc=z"), change("cn=d,dc=z"), del("cn=d,dc=z"), del("dc=z"), add("DC=z"),
	}
}

// take takes a step.
func take(s *store.Store, u api.Update) api.Errno {
	if u.Kind == 0 {
		return s.Checkpoint()
	}
	_, e := s.Do(u)
	return e
}

// stages answers the entries ahead of each step, and behind the last one, as texts.
func stages() []string {
	x, _ := tree.New(name("dc=z"))
	list := []string{""}
	for _, u := range steps() {
		x.Do(u)
		list = append(list, all(x.View))
	}
	return list
}

// losses are losses of power among few sectors: all that may last of three, and each of them torn.
func losses() []api.Loss {
	list := []api.Loss{{Keep: math.MaxUint64, Torn: -1}}
	for keep := range 8 {
		list = append(list, api.Loss{Keep: uint64(keep), Torn: -1})
		for torn := range 3 {
			for _, at := range []int{1, 4, 9, 20, 127} {
				list = append(list, api.Loss{Keep: uint64(keep), Torn: torn, At: at})
			}
		}
	}
	return list
}

// The steps are done, and lay the journal anew, so that a loss of power meets all that may be under way.
func TestSteps(t *testing.T) {
	d := disk.New(16)
	s := opened(t, d)
	asked, anew := 0, 0
	for i, u := range steps() {
		gen := s.Gen()
		if u.Kind == 0 {
			asked++
			is(t, "Checkpoint", s.Checkpoint(), api.OK)
		} else {
			done(t, s, u)
			anew += s.Gen() - gen
		}
		is(t, "the entries", all(s.View), stages()[i+1])
	}
	is(t, "asked for", asked, 3)
	is(t, "laid anew by Do", anew, 4)
}

// P18.4: the power is lost at each call for the disk, in each way: what was told as done is there, and perhaps the step under way.
func TestPowerAtEachCall(t *testing.T) {
	todo, want := steps(), stages()
	for _, l := range losses() {
		calls := 0
		for lostAt(t, calls+1, l, todo, want) {
			calls++
		}
		if calls < 70 {
			t.Errorf("there are %d calls alone", calls)
		}
		if t.Failed() {
			t.Fatalf("%v", l)
		}
	}
}

// lostAt cuts the power at the n-th call, opens the disk again, and goes on with the steps; false, where there is no such call.
func lostAt(t *testing.T, n int, l api.Loss, todo []api.Update, want []string) bool {
	t.Helper()
	d := disk.New(16)
	d.Cut(n, l)
	s, e := store.Open(d, name("dc=z"))
	told := 0
	for e == api.OK && told < len(todo) {
		e = take(s, todo[told])
		if e == api.OK {
			told++
		}
	}
	if e == api.OK {
		return false
	}
	is(t, "the error", e, api.ErrPower)
	d.On()
	underWay := s != nil
	if underWay {
		is(t, "the entries behind the error", all(s.View), want[told])
		closedFor(t, s, add("cn=new,dc=z"))
	}
	s = opened(t, d)
	got := all(s.View)
	if underWay && got != want[told] {
		told++
	}
	is(t, fmt.Sprint("opened behind a cut at ", n), got, want[told])
	for _, u := range todo[told:] {
		is(t, "a step behind the loss", take(s, u), api.OK)
	}
	is(t, "the entries in the end", all(s.View), want[len(todo)])
	return true
}

// P18.4: the power is lost again and again while the disk is opened: the entries stay.
func TestPowerInOpen(t *testing.T) {
	updates, want := steps()[:9], stages()[9]
	list := losses()
	for first := 1; first <= 8; first++ {
		for second := 1; second <= 8; second++ {
			for i, l := range list {
				d := disk.New(16)
				s := opened(t, d)
				for _, u := range updates {
					take(s, u)
				}
				d.Cut(first, l)
				store.Open(d, name("dc=z"))
				d.On()
				d.Cut(second, list[(i*7+3)%len(list)])
				store.Open(d, name("dc=z"))
				d.On()
				is(t, "behind two losses", all(opened(t, d).View), want)
			}
		}
	}
}

// P18.2, P18.3: behind an error of the disk all is closed, whichever call had it; the disk itself goes on.
func TestClosed(t *testing.T) {
	for _, c := range []struct {
		what  string
		full  bool
		calls int
		do    func(s *store.Store) (int, api.Errno)
	}{
		{"Append", false, 3, func(s *store.Store) (int, api.Errno) { return s.Do(sized(200, add("cn=b,dc=z"))) }},
		{"Append behind a Reset", true, 7, func(s *store.Store) (int, api.Errno) { return s.Do(add("cn=b,dc=z")) }},
		{"Checkpoint", false, 5, func(s *store.Store) (int, api.Errno) { return api.Other, s.Checkpoint() }},
	} {
		for n := 1; n <= c.calls+1; n++ {
			d := disk.New(22)
			s := opened(t, d)
			done(t, s, add("dc=z"), add("cn=a,dc=z"))
			for range s.Left() {
				if c.full {
					done(t, s, change("dc=z"))
				}
			}
			d.Cut(n, api.Loss{Torn: -1})
			code, e := c.do(s)
			if n > c.calls {
				is(t, c.what+" has no more calls", e, api.OK)
				continue
			}
			is(t, c.what+": the code", code, api.Other)
			is(t, c.what+": the error", e, api.ErrPower)
			is(t, "the entries", all(s.View), "dc=z [] | cn=a,dc=z []")
			gen, left := s.Gen(), s.Left()
			d.On()
			closed(t, d, s)
			is(t, "Gen", s.Gen(), gen)
			is(t, "Left", s.Left(), left)
			is(t, "the view stays", s.Find(name("cn=a,dc=z")), 2)
			d.Limit(0)
			closedFor(t, s, add("cn=new,dc=z")) // also where the disk is full
			d.Limit(22)
			s = opened(t, d)
			done(t, s, change("cn=a,dc=z", "n:m"))
		}
	}
	d := disk.New(22)
	s := opened(t, d)
	d.Cut(1, api.Loss{})
	d.Flush()
	code, e := s.Do(add("dc=z"))
	is(t, "without power: the code", code, api.Other)
	is(t, "without power: the error", e, api.ErrPower)
	closedFor(t, s, add("dc=z"))
	d.On()
	closed(t, d, s)
	is(t, "no entries", s.Len(), 0)
}

// closedFor: the store is closed for an update, and for a Checkpoint.
func closedFor(t *testing.T, s *store.Store, u api.Update) {
	t.Helper()
	code, e := s.Do(u)
	is(t, "Do's code", code, api.Other)
	is(t, "Do's error", e, api.ErrClosed)
	is(t, "Checkpoint", s.Checkpoint(), api.ErrClosed)
}

// P18.4: long ways by chance, with losses of power at any time.
func TestLongWays(t *testing.T) {
	lost, kept := 0, 0
	for seed := range 500 {
		r := rand.New(rand.NewSource(int64(seed)))
		l, k := longWay(t, r)
		lost, kept = lost+l, kept+k
		if t.Failed() {
			t.Fatalf("seed %d", seed)
		}
	}
	if lost < 300 || kept < 300 {
		t.Errorf("of updates under way %d were lost, and %d there", lost, kept)
	}
}

// longWay goes on for some steps, and answers how many updates under way were lost, and how many were there.
func longWay(t *testing.T, r *rand.Rand) (lost, kept int) {
	t.Helper()
	d := disk.New(16 + r.Intn(40))
	s := opened(t, d)
	x, _ := tree.New(name("dc=z"))
	for range 80 {
		u := someUpdate(r)
		if r.Intn(3) == 0 {
			d.Cut(1+r.Intn(8), someLoss(r))
		}
		before := all(x.View)
		var e api.Errno
		code := api.Success
		if r.Intn(10) == 0 {
			u.Kind = 0
			e = s.Checkpoint()
		} else {
			code, e = s.Do(u)
		}
		if e == api.OK && code == api.Success && u.Kind != 0 {
			is(t, "the tree's code", x.Do(u), api.Success)
		}
		is(t, "the entries", all(s.View), all(x.View))
		if e != api.ErrPower && r.Intn(8) > 0 {
			continue
		}
		d.Crash(someLoss(r))
		s = opened(t, d)
		got := all(s.View)
		if e == api.ErrPower && u.Kind != 0 {
			if got == before {
				lost++
			} else {
				kept++
				is(t, "the tree's code of what was under way", x.Do(u), api.Success)
			}
		}
		is(t, "opened", got, all(x.View))
	}
	return lost, kept
}
