package journal_test

import (
	"math"
	"slices"
	"strings"
	"testing"

	"castellan/api"
	"castellan/disk"
	"castellan/journal"
)

// P6.1: Need.
func TestNeed(t *testing.T) {
	rows := []struct{ n, want int }{
		{0, 1}, {1, 1}, {109, 1}, {110, 1}, {111, 2}, {220, 2}, {221, 3}, {330, 3}, {331, 4},
		{110 * 2383, 2383}, {110*2383 + 1, 2384}, {api.MaxRecord - 1, 2384}, {api.MaxRecord, 2384},
		{api.MaxRecord + 1, 0}, {math.MaxInt, 0}, {math.MaxInt - 109, 0}, {-1, 0}, {-110, 0}, {math.MinInt, 0},
	}
	for _, row := range rows {
		if got := journal.Need(row.n); got != row.want {
			t.Errorf("Need(%d) is %d, wanted %d", row.n, got, row.want)
		}
	}
	is(t, "Room", journal.Room, 110)
}

// P6.2: what isn't opened.
func TestOpenErrors(t *testing.T) {
	refused(t, "nil", nil, api.ErrNil)
	for _, n := range []int{-1, 0, 1, 2, 3} {
		d := disk.New(n)
		refused(t, "too small", d, api.ErrArg)
		d.Cut(1, api.Loss{})
		d.Flush()
		refused(t, "too small, without power", d, api.ErrArg)
		is(t, "nothing is written", d.Image(), noughts(d.Sectors()))
	}
	d := disk.New(4)
	d.Cut(1, api.Loss{})
	d.Flush()
	refused(t, "without power", d, api.ErrPower)
	d.Limit(0)
	refused(t, "without power and room", d, api.ErrPower)
	d.On()
	for _, n := range []int{-1, 0, 1} {
		d.Limit(n)
		refused(t, "without room for heads", d, api.ErrFull)
	}
	is(t, "nothing is written", d.Image(), noughts(4))
	d.Limit(2)
	j, list := opened(t, d)
	same(t, "nothing is there", list, nil)
	is(t, "Left", j.Left(), 0)
	is(t, "Append", j.Append(""), api.ErrFull)
	is(t, "Gen", j.Gen(), 1)
}

// P6.2: at whatever call for the disk the power is cut, Open answers that, and nothing else.
func TestOpenCut(t *testing.T) {
	image := headOf(3, 1) + noughts(1) + noughts(4) + cellsOf(3, "one", someText(1, 111))
	calls := 3 + 3 // three cells; Flush, the head, Flush
	for n := 1; n <= calls+1; n++ {
		d := laid(10, image)
		d.Cut(n, api.Loss{Torn: -1})
		if n <= calls {
			refused(t, "cut", d, api.ErrPower)
			continue
		}
		_, list := opened(t, d)
		same(t, "not cut", list, []string{"one", someText(1, 111)})
	}
}

// P6.2: the example: a disk of 6 sectors.
func TestExample(t *testing.T) {
	d := disk.New(6)
	j, list := opened(t, d)
	same(t, "nothing is there", list, nil)
	is(t, "Gen", j.Gen(), 1)
	is(t, "Left", j.Left(), 2)
	is(t, "the head alone", d.Image() == headOf(1, 0)+noughts(5), true)
	is(t, "Append", j.Append("a"), api.OK)
	is(t, "the head and a cell", d.Image() == headOf(1, 0)+noughts(1)+cellsOf(1, "a")+noughts(3), true)
	is(t, "Left", j.Left(), 1)
	is(t, "Len", j.Len(), 1)
	is(t, "Reset", j.Reset("b", ""), api.OK)
	is(t, "the other half, the other head", d.Image() == headOf(1, 0)+headOf(2, 1)+cellsOf(1, "a")+noughts(1)+cellsOf(2, "b", ""), true)
	is(t, "Gen", j.Gen(), 2)
	is(t, "Left", j.Left(), 0)
	is(t, "Len", j.Len(), 2)
	is(t, "Append", j.Append("c"), api.ErrFull)
	j, list = opened(t, d)
	same(t, "they are there", list, []string{"b", ""})
	is(t, "Gen", j.Gen(), 3)
	is(t, "laid anew", d.Image() == headOf(3, 0)+headOf(2, 1)+cellsOf(3, "b", "")+cellsOf(2, "b", ""), true)
}

// P6.2 to P6.4: behind each Open and each Reset the journal counts the records that were laid, and the sectors they
// fill; what is appended stands behind them, and over none of them.
func TestBehindLaid(t *testing.T) {
	d := disk.New(6)
	j, _ := opened(t, d)
	is(t, "Reset", j.Reset("b"), api.OK)
	is(t, "Len", j.Len(), 1)
	is(t, "Left", j.Left(), 1)
	is(t, "Append", j.Append("c"), api.OK)
	is(t, "both stand there", sectorsOf(d, 4, 2) == cellsOf(2, "b", "c"), true)
	for count := range 5 {
		for _, length := range []int{0, 1, 110, 111, 330} {
			bodies := slices.Repeat([]string{someText(count, length)}, count)
			fill := count * journal.Need(length)
			d := disk.New(2 + 2*(fill+3))
			j, _ := opened(t, d)
			is(t, "Reset", j.Reset(bodies...), api.OK)
			is(t, "Len behind Reset", j.Len(), count)
			is(t, "Left behind Reset", j.Left(), 3)
			is(t, "Append behind Reset", j.Append("c"), api.OK)
			j, list := opened(t, d)
			same(t, "behind Reset", list, append(bodies[:count:count], "c"))
			is(t, "Len behind Open", j.Len(), count+1)
			is(t, "Left behind Open", j.Left(), 2)
			is(t, "Append behind Open", j.Append("d"), api.OK)
			is(t, "Left", j.Left(), 1)
			_, list = opened(t, d)
			same(t, "behind Open", list, append(bodies[:count:count], "c", "d"))
		}
	}
}

// P6.2 to P6.4: where the halves are, on disks of all small sizes.
func TestHalves(t *testing.T) {
	for n := 4; n < 20; n++ {
		h := (n - 2) / 2
		d := disk.New(n)
		j, _ := opened(t, d)
		var bodies []string
		for i := range h {
			is(t, "Left", j.Left(), h-i)
			bodies = append(bodies, someText(i, i))
			is(t, "Append", j.Append(bodies[i]), api.OK)
		}
		is(t, "Left", j.Left(), 0)
		is(t, "Append to a full half", j.Append(""), api.ErrFull)
		is(t, "half 0", sectorsOf(d, 2, h) == cellsOf(1, bodies...), true)
		is(t, "nothing behind", sectorsOf(d, 2+h, n-2-h) == noughts(n-2-h), true)
		is(t, "Reset of too many", j.Reset(append(bodies, "")...), api.ErrFull)
		is(t, "Reset", j.Reset(bodies...), api.OK)
		is(t, "Left", j.Left(), 0)
		is(t, "half 1", sectorsOf(d, 2+h, h) == cellsOf(2, bodies...), true)
		is(t, "nothing behind the halves", sectorsOf(d, 2+2*h, n-2-2*h) == noughts(n-2-2*h), true)
		j, list := opened(t, d)
		same(t, "opened", list, bodies)
		is(t, "half 0 again", sectorsOf(d, 2, h) == cellsOf(3, bodies...), true)
		is(t, "Gen", j.Gen(), 3)
		is(t, "Reset to nothing", j.Reset(), api.OK)
		is(t, "Left", j.Left(), h)
		is(t, "Len", j.Len(), 0)
	}
}

// P6.4: records of all lengths about a cell's edge, and how their cells look.
func TestCells(t *testing.T) {
	var bodies []string
	for _, length := range []int{0, 1, 2, 109, 110, 111, 219, 220, 221, 255, 256, 330, 1100, 1101} {
		bodies = append(bodies, someText(length, length))
	}
	need := len(cellsOf(1, bodies...)) / api.Sector
	d := disk.New(2 + 2*need)
	j, _ := opened(t, d)
	left := need
	for i, body := range bodies {
		is(t, "Left", j.Left(), left)
		is(t, "Append", j.Append(body), api.OK)
		left -= journal.Need(len(body))
		is(t, "Len", j.Len(), i+1)
	}
	is(t, "Left", j.Left(), 0)
	is(t, "appended", sectorsOf(d, 2, need) == cellsOf(1, bodies...), true)
	_, list := opened(t, d)
	same(t, "opened", list, bodies)
	is(t, "laid", sectorsOf(d, 2+need, need) == cellsOf(2, bodies...), true)
}

// P6.2: which head is the current one, and where the next one goes.
func TestCurrentHead(t *testing.T) {
	const h = 3
	no := noughts(1)
	torn := headOf(9, 0)[:7] + headOf(8, 1)[7:]
	rows := []struct {
		what          string
		first, second string
		half          int // of the records; -1: none
		gen           uint32
		to, next      int // where the next head, and the next records, go
	}{
		{"none", no, no, -1, 7, 0, 0},
		{"the first alone", headOf(7, 0), no, 0, 7, 1, 1},
		{"the first alone, half 1", headOf(7, 1), no, 1, 7, 1, 0},
		{"the second alone", no, headOf(7, 0), 0, 7, 0, 1},
		{"the second alone, half 1", no, headOf(7, 1), 1, 7, 0, 0},
		{"the first is greater", headOf(7, 1), headOf(6, 0), 1, 7, 1, 0},
		{"the second is greater", headOf(6, 1), headOf(7, 0), 0, 7, 0, 1},
		{"they are alike", headOf(7, 1), headOf(7, 0), 1, 7, 1, 0},
		{"they are alike, half 0", headOf(7, 0), headOf(7, 1), 0, 7, 1, 1},
		{"one is torn", torn, headOf(7, 0), 0, 7, 0, 1},
		{"the other is torn", headOf(7, 1), torn, 1, 7, 1, 0},
		{"both are torn", torn, torn, -1, 7, 0, 0},
	}
	halves := []string{cellsOf(7, "a", "b"), cellsOf(7, "c", "", "d")}
	records := [][]string{{"a", "b"}, {"c", "", "d"}}
	for _, row := range rows {
		d := laid(2+2*h, row.first, row.second, padded(halves[0], h), padded(halves[1], h))
		before := d.Image()
		j, list := opened(t, d)
		var want []string
		if row.half >= 0 {
			want = records[row.half]
		}
		same(t, row.what, list, want)
		is(t, row.what+": Gen", j.Gen(), int(row.gen)+1)
		is(t, row.what+": Left", j.Left(), h-len(want))
		image := []byte(before)
		copy(image[row.to*api.Sector:], headOf(row.gen+1, byte(row.next)))
		copy(image[(2+row.next*h)*api.Sector:], cellsOf(row.gen+1, want...))
		is(t, row.what+": what is laid", d.Image() == string(image), true)
	}
}

// P6.2: sectors that are nearly heads.
func TestNoHeads(t *testing.T) {
	good := headOf(7, 1)
	turned := func(at int) string { return good[:at] + string([]byte{good[at] ^ 1}) + good[at+1:] }
	list := []string{
		headOf(0, 1), headOf(7, 2), headOf(7, 255),
		sealed("C" + good[5:10]), sealed("h" + good[5:10]), sealed("\x00" + good[5:10]),
		sealed(good[4:10] + "\x01"), sealed(good[4:] + "x")[:4] + good[4:127] + "\x01",
		sealed(good[4:127] + "\x01"), // a right sum over bytes that aren't noughts
		cellOf(7, 0, 0, 1, "x"),
	}
	for at := range api.Sector {
		list = append(list, turned(at))
	}
	for _, s := range list {
		d := laid(6, s, noughts(1), cellsOf(3, "a"), noughts(1), cellsOf(2, "b"))
		j, records := opened(t, d)
		same(t, "no head, no records", records, nil)
		is(t, "Gen", j.Gen(), 4)
		is(t, "the first head", sectorsOf(d, 0, 1) == headOf(4, 0), true)
		d = laid(6, s, headOf(2, 1), noughts(2), cellsOf(2, "b"))
		j, records = opened(t, d)
		same(t, "of the other head", records, []string{"b"})
		is(t, "Gen", j.Gen(), 3)
	}
}

// P6.2: the greatest generation is that of all heads and all cells, wherever they stand.
func TestGreatestGeneration(t *testing.T) {
	cell := cellOf(40, 9, 1, 3, someText(0, 110))
	rows := []struct {
		what string
		at   int
		s    string
		gen  int
	}{
		{"nothing more", 8, "", 6},
		{"in the current half", 3, cell, 41},
		{"at the current half's end", 4, cell, 41},
		{"in the other half", 5, cell, 41},
		{"at the other half's end", 7, cell, 41},
		{"behind the halves", 8, cell, 6},
		{"in a head's place", 0, cell, 6},
		{"a head in a half", 3, headOf(40, 0), 6},
		{"a torn cell", 3, cell[:9] + "\x01" + cell[10:], 6},
		{"a lesser one", 6, cellOf(3, 0, 0, 1, "x"), 6},
		{"the old head", 0, headOf(4, 1), 6},
	}
	for _, row := range rows {
		image := []byte(noughts(1) + headOf(5, 0) + cellsOf(5, "a") + noughts(6))
		copy(image[row.at*api.Sector:], row.s)
		d := laid(9, string(image))
		j, list := opened(t, d)
		same(t, row.what, list, []string{"a"})
		is(t, row.what, j.Gen(), row.gen)
	}
	// Without a head, cells alone.
	d := laid(9, noughts(4), cell)
	j, list := opened(t, d)
	same(t, "no head", list, nil)
	is(t, "Gen", j.Gen(), 41)
	is(t, "the head", sectorsOf(d, 0, 1) == headOf(41, 0), true)
}

// P6.2: sectors that are nearly cells: they are no records, and have no generation.
func TestNoCells(t *testing.T) {
	long := someText(3, 110)
	good := cellOf(20, 0, 0, 1, "abc")
	list := []string{
		cellOf(20, 0, 0, 0, "abc"), cellOf(20, 0, 1, 1, "abc"), cellOf(20, 0, 2, 1, "abc"), cellOf(20, 0, 65535, 1, "abc"),
		cellOf(20, 0, 0, 2, "abc"), cellOf(20, 0, 0, 2, long[1:]), cellOf(20, 0, 0, 2, ""), cellOf(20, 0, 1, 3, long[1:]),
		cellOf(20, 0, 1, 2, ""), cellOf(20, 0, 65534, 65535, ""), cellOf(20, 0, 0, 0, ""),
		cellOf(20, 0, 0, 1, someText(0, 111)), cellOf(20, 0, 0, 2, someText(0, 111)), cellOf(20, 0, 0, 1, strings.Repeat("\x00", 255)),
		sealed("H" + good[5:21]), sealed("c" + good[5:21]), sealed("\x00" + good[5:21]), sealed(good[4:21] + "\x01"), sealed(good[4:127] + "\x01"),
		headOf(20, 0), noughts(1), strings.Repeat("C", 128), strings.Repeat("\xff", 128),
	}
	for at := range api.Sector {
		list = append(list, good[:at]+string([]byte{good[at] ^ 0x80})+good[at+1:])
	}
	for i, s := range list {
		d := laid(6, headOf(20, 0), noughts(1), s)
		_, records := opened(t, d)
		if len(records) != 0 {
			t.Errorf("%d: %x is read as %q", i, s, records)
		}
		d = laid(6, headOf(5, 0), noughts(1), cellsOf(5, "a"), s)
		j, records := opened(t, d)
		same(t, "the one in front", records, []string{"a"})
		if j.Gen() != 6 {
			t.Errorf("%d: %x has a generation: %d", i, s, j.Gen())
		}
	}
	d := laid(6, headOf(5, 0), noughts(1), cellOf(0, 0, 0, 1, "abc"))
	j, records := opened(t, d)
	same(t, "no generation", records, nil)
	is(t, "Gen", j.Gen(), 6)
}

// P6.2: sectors that are cells, at their edges.
func TestEdgesOfCells(t *testing.T) {
	long := someText(3, 110)
	list := []string{
		cellOf(20, 7, 0, 1, ""), cellOf(20, 7, 0, 1, "a"), cellOf(20, 7, 0, 1, long), cellOf(20, 7, 0, 2, long), cellOf(20, 7, 1, 2, "a"),
		cellOf(20, 7, 1, 2, long), cellOf(20, math.MaxUint32, 65533, 65535, long), cellOf(20, 0, 65534, 65535, "a"),
	}
	for i, s := range list {
		d := laid(8, headOf(5, 0), noughts(1), cellsOf(5, "a"), s)
		j, records := opened(t, d)
		same(t, "the one in front", records, []string{"a"})
		if j.Gen() != 21 {
			t.Errorf("%d: %x is no cell: %d", i, s, j.Gen())
		}
	}
}

// P6.2: the records end ahead of the first one that isn't whole.
func TestRecordsEnd(t *testing.T) {
	long, tail := someText(3, 110), "tail"
	rows := []struct {
		what   string
		behind string // behind the record a, in a half of five
		want   []string
	}{
		{"a whole one", cellOf(5, 1, 0, 1, "b"), []string{"a", "b"}},
		{"one of two parts", cellOf(5, 1, 0, 2, long) + cellOf(5, 1, 1, 2, tail), []string{"a", long + tail}},
		{"of four parts, up to the end", cellOf(5, 1, 0, 4, long) + cellOf(5, 1, 1, 4, long) + cellOf(5, 1, 2, 4, long) + cellOf(5, 1, 3, 4, tail), []string{"a", long + long + long + tail}},
		{"another generation", cellOf(4, 1, 0, 1, "b"), []string{"a"}},
		{"a greater generation", cellOf(6, 1, 0, 1, "b"), []string{"a"}},
		{"the same number", cellOf(5, 0, 0, 1, "b"), []string{"a"}},
		{"a number further", cellOf(5, 2, 0, 1, "b"), []string{"a"}},
		{"not from part 0 on", cellOf(5, 1, 1, 2, tail), []string{"a"}},
		{"no second part", cellOf(5, 1, 0, 2, long), []string{"a"}},
		{"another second part", cellOf(5, 1, 0, 3, long) + cellOf(5, 1, 2, 3, tail), []string{"a"}},
		{"the same part twice", cellOf(5, 1, 0, 2, long) + cellOf(5, 1, 0, 2, long), []string{"a"}},
		{"another count", cellOf(5, 1, 0, 3, long) + cellOf(5, 1, 1, 2, tail), []string{"a"}},
		{"another count, of as many", cellOf(5, 1, 0, 2, long) + cellOf(5, 1, 1, 3, long) + cellOf(5, 1, 2, 3, tail), []string{"a"}},
		{"a part of another number", cellOf(5, 1, 0, 2, long) + cellOf(5, 2, 1, 2, tail), []string{"a"}},
		{"a part of another generation", cellOf(5, 1, 0, 2, long) + cellOf(4, 1, 1, 2, tail), []string{"a"}},
		{"a gap", noughts(1) + cellOf(5, 1, 0, 1, "b"), []string{"a"}},
		{"whole ones behind one that isn't", cellOf(5, 1, 0, 2, long) + cellOf(5, 1, 0, 1, "b") + cellOf(5, 2, 0, 1, "c"), []string{"a"}},
	}
	for _, row := range rows {
		d := laid(12, headOf(5, 0), noughts(1), cellOf(5, 0, 0, 1, "a"), row.behind)
		j, list := opened(t, d)
		same(t, row.what, list, row.want)
		is(t, row.what+": laid", sectorsOf(d, 7, 5) == padded(cellsOf(uint32(j.Gen()), row.want...), 5), true)
	}
	d := laid(6, headOf(5, 0), noughts(1), cellOf(5, 0, 0, 4, long), cellOf(5, 0, 1, 4, long), cellOf(5, 0, 2, 4, long), cellOf(5, 0, 3, 4, tail))
	_, list := opened(t, d)
	same(t, "over the half's end", list, nil)
	d = laid(6, headOf(5, 1), noughts(3), cellOf(5, 0, 0, 3, long), cellOf(5, 0, 1, 3, long))
	_, list = opened(t, d)
	same(t, "over the disk's end", list, nil)
	d = laid(7, headOf(5, 1), noughts(3), cellOf(5, 0, 0, 3, long), cellOf(5, 0, 1, 3, long), cellOf(5, 0, 2, 3, tail))
	_, list = opened(t, d)
	same(t, "over the second half's end", list, nil)
	d = laid(6, headOf(5, 0), noughts(1), cellsOf(5, "a", "b", "c", "d"))
	_, list = opened(t, d)
	same(t, "behind the half's end", list, []string{"a", "b"})
}

// P6.2, P6.3: the greatest generation that four bytes have.
func TestLastGeneration(t *testing.T) {
	for _, d := range []*disk.Disk{
		laid(6, headOf(math.MaxUint32, 0)),
		laid(6, headOf(5, 0), headOf(math.MaxUint32, 0)),
		laid(6, noughts(3), cellOf(math.MaxUint32, 0, 0, 1, "a")),
		laid(6, headOf(5, 0), noughts(3), cellOf(math.MaxUint32, 0, 0, 1, "a")),
	} {
		before := d.Image()
		refused(t, "no generation is left", d, api.ErrFull)
		is(t, "nothing is written", d.Image() == before, true)
	}
	d := laid(6, headOf(math.MaxUint32-1, 1), noughts(3), cellsOf(math.MaxUint32-1, "a"))
	j, list := opened(t, d)
	same(t, "the last one", list, []string{"a"})
	is(t, "Gen", j.Gen(), math.MaxUint32)
	before := d.Image()
	is(t, "Reset", j.Reset("x"), api.ErrFull)
	is(t, "Reset to nothing", j.Reset(), api.ErrFull)
	is(t, "nothing is written", d.Image() == before, true)
	is(t, "Append goes on", j.Append("b"), api.OK)
	is(t, "its cells", sectorsOf(d, 2, 2) == cellsOf(math.MaxUint32, "a", "b"), true)
	refused(t, "opened again", d, api.ErrFull)
}

// P6.3, P6.4: too long bodies.
func TestTooLong(t *testing.T) {
	long := strings.Repeat("x", api.MaxRecord+1)
	d := disk.New(6)
	j, _ := opened(t, d)
	is(t, "Append, which wouldn't fit either", j.Append(long), api.ErrLong)
	is(t, "Reset", j.Reset(long), api.ErrLong)
	is(t, "Reset to more than fit", j.Reset("a", "b", "c", long), api.ErrLong)
	is(t, "Reset of what doesn't fit", j.Reset(long[1:]), api.ErrFull)
	is(t, "Append of what doesn't fit", j.Append(long[1:]), api.ErrFull)
	is(t, "goes on", j.Append("a"), api.OK)
	d.Limit(0)
	is(t, "without room", j.Reset(long), api.ErrLong)
	d.Cut(1, api.Loss{})
	d.Flush()
	is(t, "without power", j.Append(long), api.ErrLong)
	is(t, "without power and room", j.Reset(), api.ErrFull)
	is(t, "not closed by these", j.Reset(), api.ErrFull)
}

// P6.2 to P6.4: records of the greatest length, on the greatest disk.
func TestGreatRecords(t *testing.T) {
	d := disk.New(api.MaxSectors)
	j, _ := opened(t, d)
	great := someText(5, api.MaxRecord)
	is(t, "Left", j.Left(), 4095)
	is(t, "Append", j.Append(great), api.OK)
	is(t, "Left", j.Left(), 4095-2384)
	is(t, "Append of one more", j.Append(great), api.ErrFull)
	is(t, "Append", j.Append(great[:110*1711]), api.OK)
	is(t, "Left", j.Left(), 0)
	j, list := opened(t, d)
	same(t, "opened", list, []string{great, great[:110*1711]})
	is(t, "Reset to too many", j.Reset(great, great), api.ErrFull)
	is(t, "Reset", j.Reset("", great), api.OK)
	_, list = opened(t, d)
	same(t, "opened again", list, []string{"", great})
	many := make([]string, 4096)
	is(t, "Reset to too many", j.Reset(many...), api.ErrFull)
	is(t, "Reset to many", j.Reset(many[1:]...), api.OK)
	_, list = opened(t, d)
	same(t, "opened with many", list, many[1:])
}

// P6.2: a record on a disk that is longer than any that may be told is a record all the same.
func TestLongerThanMayBe(t *testing.T) {
	body := someText(9, 110*2400)
	d := laid(api.MaxSectors, headOf(1, 0), noughts(1), cellsOf(1, body, "behind"))
	j, list := opened(t, d)
	same(t, "opened", list, []string{body, "behind"})
	is(t, "laid", sectorsOf(d, 2+4095, 2401) == cellsOf(2, body, "behind"), true)
	is(t, "Left", j.Left(), 4095-2401)
}

// P6.3, P6.4: how much room the disk has.
func TestRoom(t *testing.T) {
	d := disk.New(12) // halves of five: from 2 on, from 7 on
	j, _ := opened(t, d)
	rows := []struct{ limit, left int }{{0, 0}, {2, 0}, {3, 0}, {4, 1}, {6, 3}, {7, 4}, {8, 4}, {12, 4}}
	is(t, "Append", j.Append("a"), api.OK)
	for _, row := range rows {
		d.Limit(row.limit)
		is(t, "Left", j.Left(), row.left)
		if row.left < 4 {
			is(t, "Append of more", j.Append(strings.Repeat("x", 110*row.left+1)), api.ErrFull)
		}
	}
	d.Limit(4)
	is(t, "Append of as much", j.Append("b"), api.OK)
	is(t, "Left", j.Left(), 0)
	is(t, "Append", j.Append(""), api.ErrFull)
	resets := []struct {
		limit int
		need  int
		want  api.Errno
	}{
		{0, 0, api.ErrFull}, {1, 0, api.ErrFull}, {0, 1, api.ErrFull}, {7, 1, api.ErrFull}, {8, 2, api.ErrFull}, {11, 5, api.ErrFull}, {12, 6, api.ErrFull},
		{2, 0, api.OK}, {2, 1, api.ErrFull}, // now half 0 is the other one
		{3, 2, api.ErrFull}, {3, 1, api.OK}, {8, 1, api.OK}, {2, 0, api.OK}, {5, 4, api.ErrFull}, {6, 4, api.ErrFull}, {6, 0, api.OK}, {6, 4, api.OK}, {12, 5, api.OK},
	}
	for _, row := range resets {
		d.Limit(row.limit)
		was, gen, left, before := j.Len(), j.Gen(), j.Left(), d.Image()
		got := j.Reset(slices.Repeat([]string{"r"}, row.need)...)
		if got != row.want {
			t.Errorf("Reset to %d records with the limit %d: %v, wanted %v", row.need, row.limit, got, row.want)
		}
		if got != api.OK && (j.Len() != was || j.Gen() != gen || j.Left() != left || d.Image() != before) {
			t.Errorf("a Reset that isn't done changes something")
		}
		if got == api.OK && (j.Len() != row.need || j.Gen() != gen+1) {
			t.Errorf("behind Reset: %d records, generation %d", j.Len(), j.Gen())
		}
	}
	d.Limit(100)
	_, list := opened(t, d)
	same(t, "opened", list, []string{"r", "r", "r", "r", "r"})
}

// P6.2: an Open without room for what it lays.
func TestOpenWithoutRoom(t *testing.T) {
	for _, row := range []struct {
		limit int
		want  api.Errno
	}{{1, api.ErrFull}, {2, api.ErrFull}, {7, api.ErrFull}, {8, api.ErrFull}, {9, api.OK}} {
		d := laid(12, headOf(1, 0), noughts(1), cellsOf(1, "a", "b"))
		before := d.Image()
		d.Limit(row.limit)
		j, list, e := journal.Open(d)
		is(t, "Open", e, row.want)
		is(t, "a journal", j != nil, e == api.OK)
		if e != api.OK {
			same(t, "no records", list, nil)
			is(t, "nothing is written", d.Image() == before, true)
		}
	}
}

// P6.3, P6.4: behind an error of the disk all is closed.
func TestClosed(t *testing.T) {
	for n := 1; n <= 4; n++ { // the two cells, Flush; of Reset: two cells, Flush, head
		for _, reset := range []bool{false, true} {
			if n == 4 && !reset {
				continue
			}
			d := disk.New(12)
			j, _ := opened(t, d)
			j.Append("first")
			d.Cut(n, api.Loss{Torn: -1})
			if reset {
				is(t, "Reset", j.Reset(someText(0, 111)), api.ErrPower)
			} else {
				is(t, "Append", j.Append(someText(0, 111)), api.ErrPower)
			}
			d.On()
			image := d.Image()
			is(t, "Append", j.Append("x"), api.ErrClosed)
			is(t, "Reset", j.Reset(), api.ErrClosed)
			is(t, "Reset of too long ones", j.Reset(strings.Repeat("x", api.MaxRecord+1)), api.ErrClosed)
			is(t, "Append of too long ones", j.Append(strings.Repeat("x", api.MaxRecord+1)), api.ErrClosed)
			d.Limit(0)
			is(t, "Append without room", j.Append("x"), api.ErrClosed)
			d.Limit(12)
			is(t, "nothing is written", d.Image() == image, true)
			is(t, "Len", j.Len(), 1)
			is(t, "Gen", j.Gen(), 1)
			is(t, "Left", j.Left(), 4)
			_, list := opened(t, d)
			same(t, "opened", list, []string{"first"})
		}
	}
	d := disk.New(6)
	j, _ := opened(t, d)
	d.Cut(1, api.Loss{})
	d.Flush()
	is(t, "without power", j.Append("x"), api.ErrPower)
	d.On()
	is(t, "closed", j.Append("x"), api.ErrClosed)
}

// P6.3, P6.4: a nil journal.
func TestNilJournal(t *testing.T) {
	var j *journal.Journal
	long := strings.Repeat("x", api.MaxRecord+1)
	is(t, "Reset", j.Reset(), api.ErrNil)
	is(t, "Reset", j.Reset("a", long), api.ErrNil)
	is(t, "Append", j.Append(""), api.ErrNil)
	is(t, "Append", j.Append(long), api.ErrNil)
	is(t, "Left", j.Left(), 0)
	is(t, "Len", j.Len(), 0)
	is(t, "Gen", j.Gen(), 0)
}

// P1: the list of bodies, its spare room included, stays as it is, and isn't kept; nor is the list that is told.
func TestListsStayTheCallers(t *testing.T) {
	room := []string{"a", "b", "spare", "room"}
	d := disk.New(12)
	j, _ := opened(t, d)
	is(t, "Reset", j.Reset(room[:2]...), api.OK)
	same(t, "the list", room, []string{"a", "b", "spare", "room"})
	room[0] = "z"
	is(t, "Append", j.Append("c"), api.OK)
	j, list := opened(t, d)
	same(t, "opened", list, []string{"a", "b", "c"})
	list[0] = "z"
	is(t, "Append", j.Append("d"), api.OK)
	_, list = opened(t, d)
	same(t, "opened again", list, []string{"a", "b", "c", "d"})
}
