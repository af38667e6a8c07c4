package store_test

import (
	"fmt"
	"math"
	"math/rand"
	"strings"
	"testing"

	"castellan/api"
	"castellan/disk"
	"castellan/journal"
	"castellan/record"
	"castellan/store"
	"castellan/tree"
)

// pair is two disks of which the same is asked: one by a store, one by what says it in another way.
type pair struct {
	d, other *disk.Disk
	s        *store.Store
	p        *plain
}

// open opens both.
func (x *pair) open(t *testing.T) {
	t.Helper()
	s, e := store.Open(x.d, name("dc=z"))
	x.s, x.p = s, newPlain(x.other)
	is(t, "Open", e == api.OK, x.p != nil)
	x.same(t)
}

// same: all that can be told of both is the same, bytes on the disks among them.
func (x *pair) same(t *testing.T) {
	t.Helper()
	is(t, "what lasts", x.d.Image() == x.other.Image(), true)
	is(t, "Off", x.d.Off(), x.other.Off())
	if x.s == nil || x.p == nil {
		return
	}
	is(t, "Gen", x.s.Gen(), x.p.journal.Gen())
	is(t, "Left", x.s.Left(), x.p.journal.Left())
	is(t, "the entries", all(x.s.View), all(x.p.tree.View))
}

// step does something by chance with both, and tells what came of it.
func (x *pair) step(t *testing.T, r *rand.Rand) string {
	t.Helper()
	if r.Intn(5) == 0 {
		n := r.Intn(x.d.Sectors() + 10)
		x.d.Limit(n)
		x.other.Limit(n)
	}
	if r.Intn(8) == 0 {
		n, l := r.Intn(10), someLoss(r)
		x.d.Cut(n, l)
		x.other.Cut(n, l)
	}
	if r.Intn(10) == 0 {
		e := x.s.Checkpoint()
		is(t, "Checkpoint", e, x.p.checkpoint())
		return fmt.Sprint("checkpoint ", int(e))
	}
	u := someUpdate(r)
	gen := x.s.Gen()
	code, e := x.s.Do(u)
	wanted, we := x.p.do(u)
	is(t, "Do's code", code, wanted)
	is(t, "Do's error", e, we)
	return fmt.Sprintf("code %d error %d anew %v", code, int(e), x.s.Gen() > gen)
}

// P18.1 to P18.3: by chance: all is as a tree and a journal, side by side, have it, call for call of the disk: also
// where there is no room, or no power.
func TestSome(t *testing.T) {
	r := rand.New(rand.NewSource(4))
	count := map[string]int{}
	for range 400 {
		n := 14 + r.Intn(30)
		x := &pair{d: disk.New(n), other: disk.New(n)}
		x.open(t)
		for range 80 {
			count[x.step(t, r)]++
			x.same(t)
			if x.d.Off() && r.Intn(2) == 0 || r.Intn(20) == 0 {
				l := someLoss(r)
				x.d.Crash(l)
				x.other.Crash(l)
				x.d.Limit(n)
				x.other.Limit(n)
				x.open(t)
			}
		}
		if t.Failed() {
			t.FailNow()
		}
	}
	for _, what := range []string{
		"code 0 error 0 anew false", "code 0 error 0 anew true", "code 32 error 0 anew false", "code 68 error 0 anew false", "code 34 error 0 anew false", "code 66 error 0 anew false", "code 53 error 0 anew false", "code 1 error 0 anew false",
		"code 80 error 0 anew false", "code 80 error 0 anew true", "code 80 error 10 anew false", "code 80 error 10 anew true", "code 80 error 12 anew false",
		"checkpoint 0", "checkpoint 10", "checkpoint 11", "checkpoint 12",
	} {
		if count[what] < 10 {
			t.Errorf("too few of %s: %v", what, count)
		}
	}
}

// P1: whatever is handed in, every call ends, and none panics.
func TestStrange(t *testing.T) {
	huge := strings.Repeat("x", 1<<20)
	names := []api.DN{nil, {}, {nil}, {{}}, make(api.DN, 1<<12), {make(api.RDN, 1<<12)}, {{{Type: huge, Value: huge}}}, {{{Type: "cn", Value: huge}}}, name("dc=z"), name("cn=a,dc=z"), name("cn=b,dc=z"), {{{Type: "cn", Value: "\xff\x00"}}, {{Type: "dc", Value: "z"}}},
		append(api.DN{nil}, name("dc=z")...), append(name("dc=z"), nil)}
	lists := [][]api.Attr{nil, {{}}, {{Name: huge, Values: []string{huge}}, {}}, {{Name: "\xff", Values: make([]string, 1000)}}, {{Name: "n", Values: make([]string, 1<<20)}}}
	for _, n := range []int{math.MinInt, 0, 3, 4, 5, 6, 7, 12, 200, math.MaxInt} {
		for _, suffix := range names {
			s, e := store.Open(disk.New(n), suffix)
			is(t, "a store", s != nil, e == api.OK)
			if s == nil {
				continue
			}
			for i, d := range append([]api.DN{suffix}, names...) {
				for _, kind := range []int{1, 3, 4, 2, 0, -1, 5, math.MinInt, math.MaxInt} {
					u := api.Update{Kind: kind, DN: d, To: names[(i*5+3)%len(names)], Attrs: lists[i%len(lists)]}
					able := s.Able(u)
					code, e := s.Do(u)
					is(t, "Do's error", e, api.OK)
					is(t, "Do's code is Able's, or there is no room", code == able || able == api.Success && code == api.Other, true)
				}
			}
			s.Checkpoint()
			is(t, "Left", s.Left() >= 0, true)
		}
	}
}

// P1: whatever stands on a disk, Open ends; what it finds is found again.
func TestOpenOfAnything(t *testing.T) {
	r := rand.New(rand.NewSource(1))
	found := 0
	for range 2000 {
		d := disk.New(30)
		j, _, _ := journal.Open(d)
		x, _ := tree.New(name("dc=z"))
		for range r.Intn(20) {
			u := someUpdate(r)
			body, e := record.Write(u)
			if e != api.OK || x.Do(u) != api.Success && r.Intn(30) > 0 {
				continue
			}
			if at := r.Intn(20 * len(body)); at < len(body) {
				body = body[:at] + string([]byte{byte(r.Intn(256))}) + body[at+1:]
			}
			j.Append(body)
		}
		image := []byte(d.Image())
		for range r.Intn(3) {
			image[r.Intn(len(image))] ^= byte(1 << r.Intn(8))
		}
		d.Lay(string(image))
		s, e := store.Open(d, name("dc=z"))
		is(t, "a store", s != nil, e == api.OK)
		if s == nil {
			is(t, "the error is a record's", e == api.ErrForm || e == api.ErrShort || e == api.ErrTag || e == api.ErrLen || e == api.ErrLong, true)
			continue
		}
		if s.Len() > 0 {
			found++
		}
		is(t, "again", again(t, d), all(s.View))
	}
	if found < 100 {
		t.Errorf("entries were found on %d disks alone", found)
	}
}
