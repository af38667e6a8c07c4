package journal_test

import (
	"math"
	"math/rand"
	"slices"
	"strings"
	"testing"

	"castellan/api"
	"castellan/disk"
	"castellan/journal"
)

// losses are losses of power among few sectors: all that may last of three, and each of them torn.
func losses() []api.Loss {
	list := []api.Loss{{Keep: math.MaxUint64, Torn: -1}}
	for keep := range 8 {
		list = append(list, api.Loss{Keep: uint64(keep), Torn: -1})
		for torn := range 3 {
			for _, at := range []int{0, 1, 4, 5, 8, 9, 13, 18, 20, 127, 128} {
				list = append(list, api.Loss{Keep: uint64(keep), Torn: torn, At: at})
			}
		}
	}
	return list
}

// step is a call that changes a journal.
type step struct {
	reset  bool
	bodies []string
}

// do takes the step on the journal.
func (s step) do(j *journal.Journal) api.Errno {
	if s.reset {
		return j.Reset(s.bodies...)
	}
	return j.Append(s.bodies[0])
}

// behind answers the records behind the step.
func (s step) behind(records []string) []string {
	if s.reset {
		return s.bodies
	}
	return append(slices.Clone(records), s.bodies[0])
}

// steps lead through both halves several times, over cells of earlier generations.
func steps() []step {
	return []step{
		{false, []string{"one"}},
		{false, []string{someText(1, 250)}},
		{true, []string{"x", someText(2, 111)}},
		{false, []string{""}},
		{true, nil},
		{false, []string{someText(3, 300)}},
		{false, []string{"two"}},
		{true, []string{someText(4, 220), "", "y"}},
		{false, []string{"z"}},
	}
}

// P6.5: the power is lost at each call for the disk, in each way: told records are there, in order, and perhaps the step under way.
func TestPowerAtEachCall(t *testing.T) {
	for _, l := range losses() {
		for n := 1; lostAt(t, n, l); n++ {
		}
	}
}

// lostAt cuts the power at the n-th call, and opens the disk again; false, where there is no such call.
func lostAt(t *testing.T, n int, l api.Loss) bool {
	t.Helper()
	d := disk.New(13)
	d.Cut(n, l)
	j, _, e := journal.Open(d)
	var told []string
	allowed := [][]string{nil}
	for _, s := range steps() {
		if e != api.OK {
			break
		}
		e = s.do(j)
		allowed = [][]string{told, s.behind(told)}
		if e == api.OK {
			told = s.behind(told)
			allowed = [][]string{told}
		}
	}
	if e != api.OK && e != api.ErrPower {
		t.Fatalf("cut at %d: %v", n, e)
	}
	d.On()
	_, list := opened(t, d)
	if !slices.ContainsFunc(allowed, func(want []string) bool { return slices.Equal(list, want) }) {
		t.Errorf("cut at %d with %v: %q, wanted one of %q", n, l, list, allowed)
	}
	return e == api.ErrPower
}

// P6.5: the power is lost again and again while the disk is opened: the records stay.
func TestPowerInOpen(t *testing.T) {
	records := []string{"a", someText(1, 200), ""}
	list := losses()
	for first := 1; first <= 8; first++ {
		for second := 1; second <= 8; second++ {
			for i, l := range list {
				d := disk.New(12)
				j, _ := opened(t, d)
				is(t, "Reset", j.Reset(records...), api.OK)
				d.Cut(first, l)
				journal.Open(d)
				d.On()
				d.Cut(second, list[(i*7+3)%len(list)])
				journal.Open(d)
				d.On()
				_, got := opened(t, d)
				same(t, "behind two losses", got, records)
			}
		}
	}
}

// imageAt answers what lasts, where the power is cut at the n-th call of the last step.
func imageAt(n int, keep uint64, prepare []step, last step) string {
	d := disk.New(10)
	j, _, _ := journal.Open(d)
	for _, s := range prepare {
		s.do(j)
	}
	d.Cut(n, api.Loss{Keep: keep, Torn: -1})
	last.do(j)
	return d.Image()
}

// P6.3: Reset writes each cell in order, flushes, writes the head, and flushes.
func TestOrderOfReset(t *testing.T) {
	prepare := []step{{false, []string{"old"}}}
	body := someText(1, 330)
	s := step{true, []string{"a", body}}
	before := headOf(1, 0) + noughts(1) + padded(cellsOf(1, "old"), 4)
	cells := cellsOf(2, "a", body)
	whole := headOf(1, 0) + headOf(2, 1) + padded(cellsOf(1, "old"), 4) + cells
	for n := 1; n <= 8; n++ {
		kept, lost := padded(before, 10), padded(before, 10)
		if n <= 4 {
			kept = padded(before+cells[:n*api.Sector], 10)
		} else {
			kept = before + cells
		}
		if n > 5 { // behind the first Flush
			kept, lost = whole, before+cells
		}
		if n == 8 { // no such call any more
			lost = whole
		}
		is(t, "what waited lasts", imageAt(n, math.MaxUint64, prepare, s) == kept, true)
		is(t, "what waited is lost", imageAt(n, 0, prepare, s) == lost, true)
	}
	// The Flush in front of the head is there without cells as well.
	none := step{true, nil}
	after := headOf(1, 0) + headOf(2, 1) + before[2*api.Sector:]
	for n, want := range []string{before, after, after, after} {
		is(t, "to nothing", imageAt(n+1, math.MaxUint64, prepare, none) == padded(want, 10), true)
	}
	for n, want := range []string{before, before, before, after} {
		is(t, "to nothing, lost", imageAt(n+1, 0, prepare, none) == padded(want, 10), true)
	}
}

// P6.4: Append writes its cells in order, and flushes.
func TestOrderOfAppend(t *testing.T) {
	body := someText(1, 330)
	prepare, s := []step{{false, []string{"a"}}}, step{false, []string{body}}
	before := headOf(1, 0) + noughts(1) + cellsOf(1, "a")
	cells := cellsOf(1, "a", body)[api.Sector:]
	for n := 1; n <= 5; n++ {
		lost := before
		if n == 5 {
			lost = before + cells
		}
		is(t, "what waited lasts", imageAt(n, math.MaxUint64, prepare, s) == padded(before+cells[:min(n, 3)*api.Sector], 10), true)
		is(t, "what waited is lost", imageAt(n, 0, prepare, s) == padded(lost, 10), true)
	}
}

// P6.2: Open writes as Reset does.
func TestOrderOfOpen(t *testing.T) {
	before := noughts(1) + headOf(6, 1) + noughts(4) + padded(cellsOf(6, "a", "b"), 4)
	whole := headOf(7, 0) + headOf(6, 1) + padded(cellsOf(7, "a", "b"), 4) + padded(cellsOf(6, "a", "b"), 4)
	part := func(cells int) string {
		return before[:2*api.Sector] + padded(cellsOf(7, "a", "b")[:cells*api.Sector], 4) + before[6*api.Sector:]
	}
	kept := []string{part(1), part(2), part(2), whole, whole, whole}
	lost := []string{before, before, before, part(2), part(2), whole}
	for i := range kept {
		for _, row := range []struct {
			keep uint64
			want string
		}{{math.MaxUint64, kept[i]}, {0, lost[i]}} {
			d := laid(10, before)
			d.Cut(i+1, api.Loss{Keep: row.keep, Torn: -1})
			journal.Open(d)
			if d.Image() != row.want {
				t.Errorf("cut at %d, keeping %x: another image", i+1, row.keep)
			}
		}
	}
}

// anyLoss answers a loss of power.
func anyLoss(r *rand.Rand) api.Loss {
	return api.Loss{Keep: r.Uint64(), Torn: r.Intn(8) - 3, At: r.Intn(140) - 5}
}

// P6.1 to P6.5: long ways, with losses of power at any time, held against lists of records.
func TestLongWays(t *testing.T) {
	for seed := range 400 {
		longWay(t, rand.New(rand.NewSource(int64(seed))))
		if t.Failed() {
			t.Fatalf("seed %d", seed)
		}
	}
}

// anyStep answers a step of few or many sectors.
func anyStep(r *rand.Rand) step {
	s := step{reset: r.Intn(4) == 0}
	many := 1
	if s.reset {
		many = r.Intn(4)
	}
	for range many {
		s.bodies = append(s.bodies, someText(r.Intn(256), r.Intn(2)*r.Intn(400)))
	}
	return s
}

// need answers how many sectors the bodies need.
func need(bodies []string) int {
	n := 0
	for _, body := range bodies {
		n += journal.Need(len(body))
	}
	return n
}

func longWay(t *testing.T, r *rand.Rand) {
	t.Helper()
	sectors := 4 + r.Intn(20)
	half := (sectors - 2) / 2
	d := disk.New(sectors)
	j, told := opened(t, d)
	for range 60 {
		s := anyStep(r)
		if r.Intn(3) == 0 {
			d.Cut(1+r.Intn(6), anyLoss(r))
		}
		gen, free := j.Gen(), half-need(told)
		if s.reset {
			free = half
		}
		e := s.do(j)
		if (e == api.ErrFull) != (need(s.bodies) > free) {
			t.Errorf("%d sectors, %d free: %v", need(s.bodies), free, e)
		}
		if e == api.OK {
			told = s.behind(told)
		}
		is(t, "Len", j.Len(), len(told))
		is(t, "Left", j.Left(), half-need(told))
		if e == api.OK && s.reset {
			gen++
		}
		is(t, "Gen", j.Gen(), gen)
		if e != api.ErrPower && r.Intn(8) > 0 {
			continue
		}
		d.Crash(anyLoss(r))
		again, list := opened(t, d)
		if !slices.Equal(list, told) && !(e == api.ErrPower && slices.Equal(list, s.behind(told))) {
			t.Errorf("opened: %q, wanted %q", strings.Join(list, "|"), strings.Join(told, "|"))
		}
		if again.Gen() <= gen {
			t.Errorf("opened: the generation %d behind %d", again.Gen(), gen)
		}
		j, told = again, list
	}
}

// P1: whatever stands on a disk, Open ends; what it tells it tells again.
func TestOpenOfAnything(t *testing.T) {
	r := rand.New(rand.NewSource(1))
	for range 3000 {
		n := 4 + r.Intn(12)
		var image strings.Builder
		for range n {
			image.WriteString(anySector(r))
		}
		d := laid(n, image.String())
		j, list, e := journal.Open(d)
		if e == api.ErrFull {
			continue // the greatest generation is there
		}
		is(t, "Open", e, api.OK)
		is(t, "Left", j.Left(), (n-2)/2-need(list))
		_, again := opened(t, d)
		same(t, "again", again, list)
	}
}

// anySector answers a head, a cell, or something near one.
func anySector(r *rand.Rand) string {
	gen := uint32(r.Intn(4))
	if r.Intn(200) == 0 {
		gen = math.MaxUint32
	}
	switch r.Intn(8) {
	case 0:
		return noughts(1)
	case 1:
		return someText(r.Intn(256), api.Sector)
	case 2, 3:
		return headOf(gen, byte(r.Intn(3)))
	}
	return cellOf(gen, uint32(r.Intn(3)), uint16(r.Intn(3)), uint16(r.Intn(4)), someText(0, []int{0, 1, 109, 110, 110, 110}[r.Intn(6)]))
}
