package disk_test

import (
	"math"
	"math/rand"
	"strings"
	"testing"

	"castellan/api"
	"castellan/disk"
)

// full answers a sector of one letter.
func full(letter string) string { return strings.Repeat(letter, api.Sector) }

// noughts answers so many sectors without anything.
func noughts(sectors int) string { return strings.Repeat("\x00", sectors*api.Sector) }

// is: a test fails, if something is another thing than was wanted.
func is[T comparable](t *testing.T, what string, got, want T) {
	t.Helper()
	if got != want {
		t.Errorf("%s: %v, wanted %v", what, got, want)
	}
}

// reads: the sector reads so.
func reads(t *testing.T, d *disk.Disk, i int, want string) {
	t.Helper()
	if got, e := d.Read(i); got != want || e != api.OK {
		t.Errorf("Read(%d) is %q, %v, wanted %q", i, got, e, want)
	}
}

// fails: the sector doesn't read.
func fails(t *testing.T, d *disk.Disk, i int, want api.Errno) {
	t.Helper()
	if got, e := d.Read(i); got != "" || e != want {
		t.Errorf("Read(%d) is %q, %v, wanted nothing, %v", i, got, e, want)
	}
}

// P5.1: how many sectors there are; they are noughts.
func TestNew(t *testing.T) {
	rows := []struct{ sectors, want int }{
		{0, 0}, {1, 1}, {7, 7}, {api.MaxSectors - 1, api.MaxSectors - 1}, {api.MaxSectors, api.MaxSectors},
		{api.MaxSectors + 1, api.MaxSectors}, {math.MaxInt, api.MaxSectors}, {-1, 0}, {math.MinInt, 0},
	}
	for _, row := range rows {
		d := disk.New(row.sectors)
		is(t, "Sectors", d.Sectors(), row.want)
		is(t, "Room", d.Room(), row.want)
		is(t, "Off", d.Off(), false)
		is(t, "all noughts", d.Image() == noughts(row.want), true)
		is(t, "Flush", d.Flush(), api.OK)
		fails(t, d, row.want, api.ErrArg)
		is(t, "Write behind the end", d.Write(row.want, full("x")), api.ErrArg)
		if row.want > 0 {
			reads(t, d, row.want-1, noughts(1))
			is(t, "Write of the last", d.Write(row.want-1, full("x")), api.OK)
		}
	}
}

// P5.1: the limit, and the room.
func TestLimit(t *testing.T) {
	rows := []struct{ limit, room int }{
		{3, 3}, {0, 0}, {-1, 0}, {math.MinInt, 0}, {1, 1}, {5, 5}, {6, 6}, {7, 6}, {math.MaxInt, 6}, {4, 4},
	}
	d := disk.New(6)
	for _, row := range rows { // one limit takes the place of the other
		d.Limit(row.limit)
		is(t, "Room", d.Room(), row.room)
		is(t, "Sectors", d.Sectors(), 6)
		for i := range 6 {
			want := api.OK
			if i >= row.room {
				want = api.ErrFull
			}
			is(t, "Write", d.Write(i, full("x")), want)
		}
	}
}

// P5.1: what a limit keeps from being written is read, flushed and lost as ever.
func TestLimitOnlyOfWrites(t *testing.T) {
	d := disk.New(3)
	d.Write(2, full("a"))
	d.Limit(1)
	reads(t, d, 2, full("a"))
	is(t, "Flush", d.Flush(), api.OK)
	is(t, "it lasts", d.Image(), noughts(2)+full("a"))
	is(t, "Write", d.Write(2, full("b")), api.ErrFull)
	reads(t, d, 2, full("a"))
	d.Limit(3)
	d.Write(1, full("b"))
	d.Write(2, full("c"))
	d.Limit(0)
	d.Crash(api.Loss{Keep: 2, Torn: -1})
	is(t, "one lasts", d.Image(), noughts(2)+full("c"))
	is(t, "the limit stays", d.Room(), 0)
	d.Lay(full("l"))
	is(t, "laid", d.Image(), full("l")+noughts(2))
	is(t, "the limit stays still", d.Room(), 0)
}

// P5.1: a nil disk.
func TestNilDisk(t *testing.T) {
	var d *disk.Disk
	for _, i := range []int{-1, 0, 1, math.MaxInt, math.MinInt} {
		fails(t, d, i, api.ErrNil)
		is(t, "Write", d.Write(i, full("x")), api.ErrNil)
		is(t, "Write of no sector", d.Write(i, ""), api.ErrNil)
		d.Limit(i)
		d.Cut(i, api.Loss{})
	}
	is(t, "Flush", d.Flush(), api.ErrNil)
	d.Crash(api.Loss{})
	d.On()
	d.Lay("x")
	is(t, "Sectors", d.Sectors(), 0)
	is(t, "Room", d.Room(), 0)
	is(t, "Off", d.Off(), false)
	is(t, "Image", d.Image(), "")
}

// P5.2: what is written waits, and is read; once it is flushed, it lasts.
func TestWriteAndFlush(t *testing.T) {
	d := disk.New(3)
	is(t, "Write", d.Write(1, full("a")), api.OK)
	reads(t, d, 1, full("a"))
	reads(t, d, 0, noughts(1))
	is(t, "nothing lasts", d.Image(), noughts(3))
	is(t, "Write", d.Write(1, full("b")), api.OK)
	reads(t, d, 1, full("b"))
	is(t, "Flush", d.Flush(), api.OK)
	is(t, "the last one lasts", d.Image(), noughts(1)+full("b")+noughts(1))
	d.Crash(api.Loss{Keep: 0, Torn: 0})
	reads(t, d, 1, full("b"))
	is(t, "Write", d.Write(1, full("c")), api.OK)
	reads(t, d, 1, full("c"))
	is(t, "the one before lasts", d.Image(), noughts(1)+full("b")+noughts(1))
	d.Crash(api.Loss{Keep: 0, Torn: -1})
	reads(t, d, 1, full("b"))
}

// P5.2: the errors, in their order.
func TestErrors(t *testing.T) {
	d := disk.New(4)
	d.Limit(2)
	for _, i := range []int{-1, 4, 5, math.MaxInt, math.MinInt} {
		fails(t, d, i, api.ErrArg)
		is(t, "Write beside the disk", d.Write(i, full("x")), api.ErrArg)
	}
	for _, data := range []string{"", "x", full("x")[1:], full("x") + "x", full("x") + full("x")} {
		is(t, "Write of another size", d.Write(0, data), api.ErrArg)
		is(t, "Write of another size, beyond the limit", d.Write(2, data), api.ErrArg)
	}
	is(t, "Write beyond the limit", d.Write(2, full("x")), api.ErrFull)
	is(t, "Write beyond the limit", d.Write(3, full("x")), api.ErrFull)
	reads(t, d, 3, noughts(1))
	d.Cut(1, api.Loss{})
	is(t, "Flush", d.Flush(), api.ErrPower)
	for _, i := range []int{-1, 0, 2, 4} {
		fails(t, d, i, api.ErrPower)
		is(t, "Write without power", d.Write(i, full("x")), api.ErrPower)
		is(t, "Write of nothing without power", d.Write(i, ""), api.ErrPower)
	}
	is(t, "Flush without power", d.Flush(), api.ErrPower)
	d.On()
	is(t, "nothing was written", d.Image(), noughts(4))
	reads(t, d, 0, noughts(1))
}

// P5.3: a loss of power, sector by sector.
func TestLoss(t *testing.T) {
	x, y, o := full("x"), full("y"), full("o")
	rows := []struct {
		loss api.Loss
		want string // of sectors 1 and 3, which wait
	}{
		{api.Loss{Keep: 0, Torn: -1}, o + o},
		{api.Loss{Keep: 1, Torn: -1}, x + o},
		{api.Loss{Keep: 2, Torn: -1}, o + y},
		{api.Loss{Keep: 3, Torn: -1}, x + y},
		{api.Loss{Keep: 4, Torn: -1}, o + o},
		{api.Loss{Keep: 8, Torn: 3}, o + o}, // the numbers are those among what waits, not those of sectors
		{api.Loss{Keep: math.MaxUint64, Torn: 2}, x + y},
		{api.Loss{Keep: math.MaxUint64, Torn: math.MinInt}, x + y},
		{api.Loss{Keep: math.MaxUint64, Torn: math.MaxInt}, x + y},
		{api.Loss{Keep: 0, Torn: 0, At: 5}, x[:5] + o[5:] + o},
		{api.Loss{Keep: 1, Torn: 0, At: 5}, x[:5] + o[5:] + o},
		{api.Loss{Keep: 3, Torn: 1, At: 127}, x + y[:127] + o[127:]},
		{api.Loss{Keep: 0, Torn: 1, At: 1}, o + y[:1] + o[1:]},
		{api.Loss{Keep: 3, Torn: 0, At: 0}, o + y},
		{api.Loss{Keep: 0, Torn: 0, At: 128}, x + o},
		{api.Loss{Keep: 3, Torn: 0, At: 129}, o + y},
		{api.Loss{Keep: 0, Torn: 0, At: 130}, x[:1] + o[1:] + o},
		{api.Loss{Keep: 0, Torn: 0, At: math.MaxInt}, x[:math.MaxInt%129] + o[math.MaxInt%129:] + o},
		{api.Loss{Keep: 3, Torn: 0, At: -1}, o + y},
		{api.Loss{Keep: 3, Torn: 1, At: -5}, x + o},
		{api.Loss{Keep: 3, Torn: 1, At: math.MinInt}, x + o},
	}
	for _, row := range rows {
		d := disk.New(4)
		d.Lay(strings.Repeat("o", 4*api.Sector))
		d.Write(3, full("z"))
		d.Write(3, y) // what waits last counts
		d.Write(1, x)
		d.Crash(row.loss)
		is(t, "behind the loss", d.Image(), o+row.want[:api.Sector]+o+row.want[api.Sector:])
		reads(t, d, 1, row.want[:api.Sector])
		reads(t, d, 3, row.want[api.Sector:])
		is(t, "Off", d.Off(), false)
		is(t, "Flush", d.Flush(), api.OK)
		is(t, "nothing waits", d.Image(), o+row.want[:api.Sector]+o+row.want[api.Sector:])
	}
}

// P5.3: of many sectors, bit i mod 64 counts.
func TestLossOfMany(t *testing.T) {
	const keep uint64 = 0x8000_0001_0000_0105
	d := disk.New(400)
	for i := 399; i >= 0; i -= 2 { // every second one waits
		d.Write(i, full("x"))
	}
	d.Crash(api.Loss{Keep: keep, Torn: 130, At: 9})
	for i := range 400 {
		number, want := i/2, noughts(1)
		if i%2 == 1 && keep>>(number%64)&1 == 1 {
			want = full("x")
		}
		if i%2 == 1 && number == 130 {
			want = full("x")[:9] + noughts(1)[9:]
		}
		reads(t, d, i, want)
	}
}

// P5.3: Cut, at a Write and at a Flush.
func TestCut(t *testing.T) {
	all := api.Loss{Keep: math.MaxUint64, Torn: -1}
	d := disk.New(3)
	d.Cut(2, all)
	is(t, "the first", d.Write(0, full("a")), api.OK)
	is(t, "not yet", d.Off(), false)
	is(t, "the second", d.Write(1, full("b")), api.ErrPower)
	is(t, "off", d.Off(), true)
	is(t, "that which is cut waited too", d.Image(), full("a")+full("b")+noughts(1))
	d.On()
	is(t, "on", d.Off(), false)
	for range 5 { // once
		is(t, "again", d.Write(2, full("c")), api.OK)
	}
	d.Cut(1, api.Loss{Torn: -1})
	is(t, "Flush", d.Flush(), api.ErrPower)
	is(t, "it isn't done", d.Image(), full("a")+full("b")+noughts(1))
	d.On()
	reads(t, d, 2, noughts(1))
	d.Write(2, full("d"))
	d.Cut(1, api.Loss{Torn: 0, At: 3})
	is(t, "Flush", d.Flush(), api.ErrPower)
	d.On()
	reads(t, d, 2, "ddd"+noughts(1)[3:])
	d.Write(2, full("e"))
	d.Cut(3, all)
	is(t, "1", d.Flush(), api.OK)
	is(t, "2", d.Flush(), api.OK)
	is(t, "3", d.Flush(), api.ErrPower)
	is(t, "4", d.Flush(), api.ErrPower)
}

// P5.3: calls with another answer than OK, and those of other kinds, aren't counted.
func TestCutCounts(t *testing.T) {
	d := disk.New(3)
	d.Limit(2)
	d.Cut(2, api.Loss{Torn: -1})
	for range 5 {
		is(t, "full", d.Write(2, full("x")), api.ErrFull)
		is(t, "not there", d.Write(3, full("x")), api.ErrArg)
		is(t, "no sector", d.Write(0, "x"), api.ErrArg)
		reads(t, d, 0, noughts(1))
		d.Limit(2)
		d.Lay("")
		d.Image()
	}
	is(t, "the first", d.Flush(), api.OK)
	is(t, "full", d.Write(2, full("x")), api.ErrFull)
	is(t, "still on", d.Off(), false)
	is(t, "the second", d.Write(1, full("x")), api.ErrPower)
	is(t, "off", d.Off(), true)
}

// P5.3: a Cut is taken back by another one, by one with no number, by On and by Crash.
func TestCutTakenBack(t *testing.T) {
	d := disk.New(2)
	goesOn := func(what string) {
		t.Helper()
		for range 5 {
			is(t, what, d.Write(0, full("x")), api.OK)
		}
		is(t, what, d.Off(), false)
	}
	for _, n := range []int{0, -1, math.MinInt} {
		d.Cut(1, api.Loss{})
		d.Cut(n, api.Loss{Keep: 1})
		goesOn("no number")
		reads(t, d, 0, full("x")) // nothing was lost
	}
	d.Cut(1, api.Loss{})
	d.On()
	goesOn("On")
	reads(t, d, 0, full("x"))
	d.Cut(1, api.Loss{})
	d.Crash(api.Loss{Torn: -1})
	goesOn("Crash")
	d.Cut(1, api.Loss{})
	d.Cut(3, api.Loss{Keep: 1, Torn: -1})
	is(t, "1", d.Flush(), api.OK)
	is(t, "2", d.Write(0, full("y")), api.OK)
	is(t, "3", d.Flush(), api.ErrPower)
	is(t, "the loss of the second Cut", d.Image(), full("y")+noughts(1))
	d.Cut(1, api.Loss{}) // asked for without power
	d.On()
	goesOn("On")
	d.Cut(1, api.Loss{Torn: -1})
	d.Flush()
	d.Cut(1, api.Loss{})
	d.Crash(api.Loss{})
	goesOn("Crash of what was off")
	d.Cut(math.MaxInt, api.Loss{})
	goesOn("far away")
	d.Cut(0, api.Loss{})
	d.Cut(1, api.Loss{Torn: -1})
	d.Flush()
	d.Cut(0, api.Loss{})
	is(t, "one with no number takes back the Cut alone", d.Off(), true)
}

// P5.3: Crash without power is just on; On without a loss loses nothing.
func TestCrashAndOn(t *testing.T) {
	d := disk.New(2)
	d.Write(0, full("a"))
	d.On()
	reads(t, d, 0, full("a"))
	is(t, "it waits still", d.Image(), noughts(2))
	d.Cut(1, api.Loss{Torn: -1, Keep: 1})
	is(t, "Write", d.Write(1, full("b")), api.ErrPower)
	is(t, "off", d.Off(), true)
	d.Crash(api.Loss{Torn: 0, At: 0})
	is(t, "on", d.Off(), false)
	is(t, "as it was", d.Image(), full("a")+noughts(1))
	reads(t, d, 1, noughts(1))
}

// P5.4: Image and Lay.
func TestImageAndLay(t *testing.T) {
	d := disk.New(3)
	d.Write(0, full("w"))
	d.Write(2, full("w"))
	d.Lay("abc" + full("d"))
	is(t, "laid", d.Image(), "abc"+full("d")+noughts(3)[131:])
	reads(t, d, 0, "abc"+full("d")[3:])
	reads(t, d, 2, noughts(1)) // nothing waits
	is(t, "Flush", d.Flush(), api.OK)
	is(t, "laid still", d.Image(), "abc"+full("d")+noughts(3)[131:])
	for _, s := range []string{"", "x", full("x"), full("x") + "y", full("x") + full("y") + full("z")} {
		d.Lay(strings.Repeat("o", 1000))
		is(t, "as far as the sectors go", d.Image(), strings.Repeat("o", 3*api.Sector))
		d.Lay(s)
		is(t, "noughts behind", d.Image(), s+noughts(3)[len(s):])
	}
	d.Cut(1, api.Loss{Torn: -1})
	d.Flush()
	is(t, "Image without power", d.Image(), full("x")+full("y")+full("z"))
	d.Lay("new")
	is(t, "laid without power", d.Image(), "new"+noughts(3)[3:])
	is(t, "off still", d.Off(), true)
	d.On()
	reads(t, d, 0, "new"+noughts(1)[3:])
	d.Cut(1, api.Loss{Torn: -1})
	d.Lay("")
	is(t, "Lay leaves the Cut", d.Flush(), api.ErrPower)
	none := disk.New(0)
	none.Lay("x")
	is(t, "Image of nothing", none.Image(), "")
}

// P1: two disks share nothing.
func TestDisksAreAlone(t *testing.T) {
	a, b := disk.New(2), disk.New(2)
	a.Write(0, full("a"))
	a.Flush()
	a.Limit(0)
	a.Cut(1, api.Loss{Torn: -1})
	a.Flush()
	is(t, "Image", b.Image(), noughts(2))
	is(t, "Off", b.Off(), false)
	is(t, "Write", b.Write(0, full("b")), api.OK)
	is(t, "Image", a.Image(), full("a")+noughts(1))
}

// slow is a disk in the plainest words of the chapter, each sector with what lasts and what waits.
type slow struct {
	lasts, waits []string
	limit, calls int
	off          bool
	loss         api.Loss
}

func newSlow(n int) *slow {
	m := &slow{limit: n}
	for range n {
		m.lasts, m.waits = append(m.lasts, noughts(1)), append(m.waits, "")
	}
	return m
}

func (m *slow) lose(l api.Loss) {
	number := 0
	for i, w := range m.waits {
		if w == "" {
			continue
		}
		if number == l.Torn {
			at := l.At % 129
			if l.At < 0 {
				at = 0
			}
			m.lasts[i] = w[:at] + m.lasts[i][at:]
		} else if l.Keep&(1<<(number%64)) != 0 {
			m.lasts[i] = w
		}
		number++
		m.waits[i] = ""
	}
}

func (m *slow) cut() bool {
	m.calls--
	if m.calls != 0 {
		return false
	}
	m.lose(m.loss)
	m.off = true
	return true
}

func (m *slow) write(i int, s string) api.Errno {
	switch {
	case m.off:
		return api.ErrPower
	case i < 0 || i >= len(m.lasts) || len(s) != 128:
		return api.ErrArg
	case i >= m.limit:
		return api.ErrFull
	}
	m.waits[i] = s
	if m.cut() {
		return api.ErrPower
	}
	return api.OK
}

func (m *slow) flush() api.Errno {
	if m.off || m.cut() {
		return api.ErrPower
	}
	for i, w := range m.waits {
		if w != "" {
			m.lasts[i], m.waits[i] = w, ""
		}
	}
	return api.OK
}

func (m *slow) read(i int) (string, api.Errno) {
	switch {
	case m.off:
		return "", api.ErrPower
	case i < 0 || i >= len(m.lasts):
		return "", api.ErrArg
	case m.waits[i] != "":
		return m.waits[i], api.OK
	}
	return m.lasts[i], api.OK
}

// anyLoss answers a loss of power of few sectors.
func anyLoss(r *rand.Rand) api.Loss {
	return api.Loss{Keep: r.Uint64() & r.Uint64(), Torn: r.Intn(6) - 2, At: r.Intn(300) - 20}
}

// P5.1 to P5.4: long ways through the calls, held against the plain disk.
func TestLongWays(t *testing.T) {
	for seed := range 300 {
		r := rand.New(rand.NewSource(int64(seed)))
		n := r.Intn(6)
		d, m := disk.New(n), newSlow(n)
		for range 150 {
			i, l := r.Intn(n+2)-1, anyLoss(r)
			switch r.Intn(14) {
			case 0, 1, 2, 3, 4:
				s := full(string(rune('a' + r.Intn(26))))[r.Intn(20)/19:]
				is(t, "Write", d.Write(i, s), m.write(i, s))
			case 5, 6:
				is(t, "Flush", d.Flush(), m.flush())
			case 7:
				k := r.Intn(6)
				d.Cut(k, l)
				m.calls, m.loss = k, l
			case 8:
				d.Crash(l)
				m.lose(l)
				m.off, m.calls = false, 0
			case 9, 10:
				d.On()
				m.off, m.calls = false, 0
			case 11:
				k := r.Intn(8) - 1
				d.Limit(k)
				m.limit = min(max(k, 0), n)
			case 12:
				s := strings.Repeat("l", r.Intn(200)) + strings.Repeat("m", r.Intn(400))
				d.Lay(s)
				s = (s + noughts(n))[:n*128]
				for i := range n {
					m.lasts[i], m.waits[i] = s[i*128:i*128+128], ""
				}
			}
			got, e := d.Read(i)
			want, f := m.read(i)
			is(t, "Read", got, want)
			is(t, "Read's error", e, f)
			is(t, "Room", d.Room(), m.limit)
			is(t, "Off", d.Off(), m.off)
			is(t, "Image", d.Image(), strings.Join(m.lasts, ""))
		}
		if t.Failed() {
			t.Fatalf("seed %d", seed)
		}
	}
}
