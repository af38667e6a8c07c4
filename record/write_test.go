package record_test

import (
	"math"
	"math/rand"
	"runtime"
	"slices"
	"strings"
	"testing"

	"castellan/api"
	"castellan/record"
)

// writes: Write answers this record, and Read of that the update, Bare.
func writes(t *testing.T, u api.Update, want string) {
	t.Helper()
	s, e := record.Write(u)
	if e != api.OK || s != want {
		t.Errorf("Write(%.300s) is %.300x, %v, wanted %.300x", said(u), s, e, want)
	}
	back, e := record.Read(s)
	is(t, "Read's error", e, api.OK)
	is(t, "Read of Write", said(back), said(bare(u)))
}

// fails: Write answers no more than this error.
func fails(t *testing.T, what string, u api.Update, want api.Errno) {
	t.Helper()
	if s, e := record.Write(u); s != "" || e != want {
		t.Errorf("Write of %s is %.100x, %v, wanted %v", what, s, e, want)
	}
}

// The chapter's example.
func TestExample(t *testing.T) {
	writes(t, deleted("dc=z"), "\x30\x09\x02\x01\x02\x04\x04dc=z")
}

// row is an update and its record.
type row struct {
	u      api.Update
	record string
}

// rows are updates of each kind, with all that an update can have, and with as little as can be, and their records.
func rows() []row {
	of := func(number int) api.Update {
		return api.Update{Kind: number, DN: name(`CN=a  b+x=\,,dc=Z`), To: name("dc=z"), Attrs: attrs("dc:z,,a", "b", ":")}
	}
	front := "\x04\x11CN=a  b+x=\\,,dc=Z"
	list := "\x30\x1f" + "\x30\x0e\x04\x02dc\x31\x08\x04\x01z\x04\x00\x04\x01a" + "\x30\x05\x04\x01b\x31\x00" + "\x30\x06\x04\x00\x31\x02\x04\x00"
	return []row{
		{of(1), "\x30\x37\x02\x01\x01" + front + list},
		{of(2), "\x30\x16\x02\x01\x02" + front},
		{of(3), "\x30\x37\x02\x01\x03" + front + list},
		{of(4), "\x30\x3d\x02\x01\x04" + front + "\x04\x04dc=z" + list},
		{added(""), "\x30\x07\x02\x01\x01\x04\x00\x30\x00"},
		{deleted(""), "\x30\x05\x02\x01\x02\x04\x00"},
		{changed(""), "\x30\x07\x02\x01\x03\x04\x00\x30\x00"},
		{moved("", ""), "\x30\x09\x02\x01\x04\x04\x00\x04\x00\x30\x00"},
		{moved("", "dc=z"), "\x30\x0d\x02\x01\x04\x04\x00\x04\x04dc=z\x30\x00"},
	}
}

// P17.1: Write of updates of each kind; what the kind doesn't have plays no part, whatever it is.
func TestWrite(t *testing.T) {
	for _, r := range rows() {
		writes(t, r.u, r.record)
		is(t, "said in another way", plain(r.u), r.record)
	}
	u := added("dc=z", "a:b")
	want := plain(u)
	for _, to := range []api.DN{name("dc=y"), {nil}, tooLong(), tooMany()} {
		u.To = to
		writes(t, u, want)
	}
	u = deleted("dc=z")
	want = plain(u)
	u.To, u.Attrs = tooMany(), []api.Attr{{Name: strings.Repeat("a", api.MaxPdu+1)}}
	writes(t, u, want)
	// The name's text is as it is spelt, with marks where Print has them.
	u = added("dc=z")
	u.DN = api.DN{{{Type: "Cn", Value: " #A  b\x00,"}}}
	writes(t, u, el(0x30, kind(1), str(`Cn=\ #A  b\00\,`), el(0x30)))
}

// P17.1: Write's errors, and which is told first.
func TestWriteErrors(t *testing.T) {
	long := []api.Attr{{Name: strings.Repeat("a", api.MaxPdu+1)}}
	for _, number := range []int{0, -1, 5, 6, 256, 257, math.MaxInt, math.MinInt, 1 << 32, 1<<32 + 1} {
		fails(t, "no kind", api.Update{Kind: number, DN: name("dc=z")}, api.ErrOp)
		fails(t, "no kind, and all else wrong", api.Update{Kind: number, DN: tooMany(), To: tooMany(), Attrs: long}, api.ErrOp)
	}
	for number := 1; number <= 4; number++ {
		for _, c := range []struct {
			d    api.DN
			want api.Errno
		}{
			{tooMany(), api.ErrMany}, {tooLong(), api.ErrLong}, {api.DN{nil}, api.ErrArg}, {api.DN{{{Type: "1"}}}, api.ErrName}, {api.DN{{{Type: "a"}, {Type: "A"}}}, api.ErrTwice},
		} {
			fails(t, "DN", api.Update{Kind: number, DN: c.d}, c.want)
			fails(t, "DN, and To", api.Update{Kind: number, DN: c.d, To: api.DN{nil}, Attrs: long}, c.want)
			u := api.Update{Kind: number, DN: name("dc=z"), To: c.d}
			if number != 4 {
				writes(t, u, plain(bare(u)))
				continue
			}
			fails(t, "To", u, c.want)
			u.Attrs = long
			fails(t, "To, and what is too long", u, c.want)
		}
	}
}

// P17.1: Put's error of what is too long: a record is MaxPdu bytes at most, its own tag and length not among them.
func TestWriteLong(t *testing.T) {
	for _, number := range []int{1, 3, 4} {
		u := api.Update{Kind: number, DN: name("dc=z"), To: name("dc=y"), Attrs: []api.Attr{{Name: "n", Values: []string{strings.Repeat("a", 1000000)}}}}
		spare := api.MaxPdu - (len(plain(u)) - 5)
		u.Attrs[0].Values[0] += strings.Repeat("b", spare)
		is(t, "its bytes", len(plain(u)), api.MaxPdu+5)
		writes(t, u, plain(u))
		u.Attrs[0].Values[0] += "b"
		fails(t, "a byte too many", u, api.ErrLong)
		u.Attrs[0].Values[0] = u.Attrs[0].Values[0][2:]
		u.Attrs[0].Name += "m"
		writes(t, u, plain(u))
		u.Attrs[0].Name += "m"
		fails(t, "a byte too many of the name", u, api.ErrLong)
	}
	long := strings.Repeat("a", api.MaxPdu+1)
	fails(t, "a long name", added("dc=z", long), api.ErrLong)
	fails(t, "a long value", changed("dc=z", "a", "b:c,"+long), api.ErrLong)
	fails(t, "a long value of several", moved("dc=z", "dc=z", "a", "b:"+long+",c", "d:e"), api.ErrLong)
	half := strings.Repeat("a", api.MaxPdu/2)
	fails(t, "too long together", added("dc=z", "a:"+half, "b:"+half), api.ErrLong)
	fails(t, "values that are too long together", added("dc=z", "a:"+half+","+half), api.ErrLong)
}

// P17.1: as many values, and attributes, as fit, and one more; what is too long is refused, even where all of it might
// not fit into memory.
func TestWriteMany(t *testing.T) {
	u := added("dc=z")
	// What isn't values is 3 bytes of the Kind, 6 of the name, the fronts of three lists, and 2 of an empty Name.
	u.Attrs = []api.Attr{{Values: make([]string, (api.MaxPdu-3-6-5-5-2-5)/2)}}
	writes(t, u, plain(u))
	u.Attrs[0].Values = append(u.Attrs[0].Values, "")
	fails(t, "a value too many", u, api.ErrLong)
	u.Attrs = make([]api.Attr, (api.MaxPdu-3-6-5)/6)
	writes(t, u, plain(u))
	u.Attrs = append(u.Attrs, api.Attr{})
	fails(t, "an attribute too many", u, api.ErrLong)
	for _, length := range []int{0, 8, api.MaxPdu} {
		value := strings.Repeat("a", length)
		values := slices.Repeat([]string{value}, 1000000)
		frugal(t, "values", api.Update{Kind: 1, Attrs: []api.Attr{{Values: values}}})
		frugal(t, "attributes with values", api.Update{Kind: 3, Attrs: slices.Repeat([]api.Attr{{Name: value, Values: values}}, 1000)})
		frugal(t, "attributes with some values", api.Update{Kind: 4, Attrs: slices.Repeat([]api.Attr{{Values: values[:1000]}}, 1000000)})
		frugal(t, "attributes", api.Update{Kind: 1, Attrs: slices.Repeat([]api.Attr{{Name: value}}, 3000000)})
	}
}

// frugal: Write refuses an update that is too long, and doesn't lay all of it first.
func frugal(t *testing.T, what string, u api.Update) {
	t.Helper()
	var before, after runtime.MemStats
	runtime.ReadMemStats(&before)
	fails(t, what, u, api.ErrLong)
	runtime.ReadMemStats(&after)
	if laid := after.TotalAlloc - before.TotalAlloc; laid > 300000000 {
		t.Errorf("%s: %d bytes of memory", what, laid)
	}
}

// P17.1, P17.3: of updates by chance; what was handed in stays.
func TestWriteSome(t *testing.T) {
	r := rand.New(rand.NewSource(1))
	for range 20000 {
		u := someUpdate(r)
		before := said(u)
		want := plain(bare(u))
		writes(t, u, want)
		is(t, "what was handed in", said(u), before)
		is(t, "Bare", said(record.Bare(u)), said(bare(u)))
		writes(t, record.Bare(u), want)
	}
}

// P17.1: Bare of updates of all kinds and none, and with names that can't be printed.
func TestBare(t *testing.T) {
	for _, number := range []int{1, 2, 3, 4, 0, 5, -1, math.MaxInt} {
		for _, d := range []api.DN{nil, name("cn=A  b,dc=z"), {nil, {}}, {{{Type: "1", Value: "\xff"}, {Type: "1"}}}, tooMany()} {
			u := api.Update{Kind: number, DN: d, To: append(name("dc=y"), d...), Attrs: attrs("b:2,1,1", "a", "b")}
			before := said(u)
			is(t, "Bare", said(record.Bare(u)), said(bare(u)))
			is(t, "Bare of it", said(record.Bare(record.Bare(u))), said(bare(u)))
			is(t, "what was handed in", said(u), before)
		}
	}
	is(t, "of nothing", said(record.Bare(api.Update{})), nobody)
}

// roomy answers an update whose lists have spare room, with something in it, and all these lists with their room.
func roomy(number int) (api.Update, func() string) {
	rdns := []api.RDN{{{Type: "cn", Value: "a"}, {Type: "room"}}, {{Type: "cn", Value: "b"}, {Type: "room"}}}
	d, to := api.DN{rdns[0][:1], {{Type: "room"}}}, api.DN{rdns[1][:1], {{Type: "room"}}}
	values := []string{"x", "room"}
	list := []api.Attr{{Name: "n", Values: values[:1]}, {Name: "room"}}
	return api.Update{Kind: number, DN: d[:1], To: to[:1], Attrs: list[:1]}, func() string {
		return said(api.Update{DN: append(slices.Clone(d), rdns...), To: to, Attrs: append(slices.Clone(list), api.Attr{Values: values})})
	}
}

// spoil writes over all lists of an update, spare room included.
func spoil(u api.Update) {
	for _, d := range []api.DN{u.DN, u.To} {
		for _, rdn := range d {
			fill(rdn, api.AVA{Type: "spoilt"})
		}
		fill(d, api.RDN{{Type: "spoilt"}})
	}
	for _, a := range u.Attrs {
		fill(a.Values, "spoilt")
	}
	fill(u.Attrs, api.Attr{Name: "spoilt"})
}

// fill puts a thing into all that a list has, its spare room too.
func fill[S ~[]T, T any](list S, thing T) {
	list = list[:cap(list)]
	for i := range list {
		list[i] = thing
	}
}

// Memory: what is handed in stays, spare room, too; answers share none with it, nor with each other.
func TestMemory(t *testing.T) {
	for number := 1; number <= 4; number++ {
		u, whole := roomy(number)
		before := whole()
		s, e := record.Write(u)
		is(t, "error", e, api.OK)
		first, second := record.Bare(u), record.Bare(u)
		want := said(second)
		is(t, "what was handed in", whole(), before)
		spoil(first)
		is(t, "what was handed in, behind a change of the answer", whole(), before)
		is(t, "another answer", said(second), want)
		spoil(u)
		is(t, "another answer, behind a change of what was handed in", said(second), want)
		one, _ := record.Read(s)
		two, _ := record.Read(s)
		is(t, "read", said(one), want)
		spoil(one)
		is(t, "read, behind a change of another answer", said(two), want)
	}
	shared := []string{"a", "b"}
	d := name("cn=a,dc=z")
	u := record.Bare(api.Update{Kind: 4, DN: d, To: d, Attrs: []api.Attr{{Values: shared}, {Values: shared}}})
	u.Attrs[0].Values[0], u.DN[0][0].Value = "x", "x"
	is(t, "the second list", u.Attrs[1].Values[0], "a")
	is(t, "the second name", u.To[0][0].Value, "a")
}

// P1: whatever is handed in, Write and Bare end, and answer the same again.
func TestWriteEnds(t *testing.T) {
	huge := strings.Repeat("x", 1<<20)
	names := []api.DN{nil, {}, {nil}, {{}}, make(api.DN, 1<<8), {make(api.RDN, 1<<8)}, {{{Type: huge, Value: huge}}}, {{{Type: "cn", Value: huge}}}, name("dc=z")}
	lists := [][]api.Attr{nil, {}, {{}}, make([]api.Attr, 1<<8), {{Name: huge}}, {{Name: "\xff", Values: make([]string, 1<<8)}}, {{Values: []string{huge, huge}}}}
	for _, number := range []int{math.MinInt, -1, 0, 1, 2, 3, 4, 5, math.MaxInt} {
		for _, d := range names {
			for _, to := range names {
				for _, list := range lists {
					u := api.Update{Kind: number, DN: d, To: to, Attrs: list}
					s, e := record.Write(u)
					is(t, "bytes beside an error", s != "", e == api.OK)
					b := record.Bare(u)
					again, sameE := record.Write(b)
					is(t, "Write of Bare", again == s, true)
					is(t, "its error", sameE, e)
				}
			}
		}
	}
}
