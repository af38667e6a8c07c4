package journal_test

import (
	"encoding/binary"
	"hash/crc32"
	"slices"
	"strings"
	"testing"

	"castellan/api"
	"castellan/disk"
	"castellan/journal"
)

// is: a test fails, if something is another thing than was wanted.
func is[T comparable](t *testing.T, what string, got, want T) {
	t.Helper()
	if got != want {
		t.Errorf("%s: %v, wanted %v", what, got, want)
	}
}

// same: a test fails, if the records are others.
func same(t *testing.T, what string, got, want []string) {
	t.Helper()
	if !slices.Equal(got, want) {
		t.Errorf("%s: %d records %.200q, wanted %d: %.200q", what, len(got), got, len(want), want)
	}
}

// sealed answers a sector as another program makes it: the sum, the bytes, and noughts.
func sealed(s string) string {
	s = (s + strings.Repeat("\x00", api.Sector))[:api.Sector-4]
	return string(binary.BigEndian.AppendUint32(nil, crc32.ChecksumIEEE([]byte(s)))) + s
}

// cellOf answers a cell with these fields, whether they fit or not.
func cellOf(gen, number uint32, part, parts uint16, body string) string {
	b := binary.BigEndian.AppendUint32([]byte("C"), gen)
	b = binary.BigEndian.AppendUint32(b, number)
	b = binary.BigEndian.AppendUint16(b, part)
	b = binary.BigEndian.AppendUint16(b, parts)
	return sealed(string(append(b, byte(len(body)))) + body)
}

// headOf answers a head with these fields.
func headOf(gen uint32, half byte) string {
	return sealed(string(append(binary.BigEndian.AppendUint32([]byte("H"), gen), half)))
}

// cellsOf answers the cells of records, one behind the other.
func cellsOf(gen uint32, records ...string) string {
	var out strings.Builder
	for number, body := range records {
		parts := uint16(max(1, (len(body)+109)/110))
		for part := range parts {
			n := min(110, len(body))
			out.WriteString(cellOf(gen, uint32(number), part, parts, body[:n]))
			body = body[n:]
		}
	}
	return out.String()
}

// noughts answers so many sectors without anything.
func noughts(sectors int) string { return strings.Repeat("\x00", sectors*api.Sector) }

// padded answers s with noughts behind, in so many sectors.
func padded(s string, sectors int) string { return (s + noughts(sectors))[:sectors*api.Sector] }

// laid answers a disk of so many sectors that begins with these.
func laid(sectors int, parts ...string) *disk.Disk {
	d := disk.New(sectors)
	d.Lay(strings.Join(parts, ""))
	return d
}

// opened opens a disk that can be opened.
func opened(t *testing.T, d *disk.Disk) (*journal.Journal, []string) {
	t.Helper()
	j, list, e := journal.Open(d)
	if e != api.OK || j == nil {
		t.Fatalf("Open: %v", e)
	}
	is(t, "Len behind Open", j.Len(), len(list))
	return j, list
}

// refused: the disk isn't opened.
func refused(t *testing.T, what string, d *disk.Disk, want api.Errno) {
	t.Helper()
	j, list, e := journal.Open(d)
	if j != nil || len(list) != 0 || e != want {
		t.Errorf("%s: Open answers %v, %q, %v, wanted %v", what, j, list, e, want)
	}
}

// sectorsOf answers the sectors of a disk from first on, as they last.
func sectorsOf(d *disk.Disk, first, count int) string {
	return d.Image()[first*api.Sector : (first+count)*api.Sector]
}

// someText answers a text of so many bytes, all kinds of bytes among them.
func someText(seed, length int) string {
	out := make([]byte, length)
	for i := range out {
		out[i] = byte(seed + i*7 + i/256)
	}
	return string(out)
}
