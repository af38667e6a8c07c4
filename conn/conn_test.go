package conn_test

import (
	"fmt"
	"maps"
	"math"
	"math/rand"
	"slices"
	"strings"
	"testing"

	"castellan/api"
	"castellan/conn"
	"castellan/wire"
)

// P27.1: which operations are asked for.
func TestRequest(t *testing.T) {
	asked := []int{api.BindReq, api.UnbindReq, api.SearchReq, api.ModifyReq, api.AddReq, api.DeleteReq, api.MoveReq, api.CompareReq, api.AbandonReq, api.ExtendedReq}
	is(t, "ten of them", fmt.Sprint(asked), "[0 2 3 6 8 10 12 14 16 23]")
	for op := -300; op < 600; op++ {
		is(t, fmt.Sprint("Request of ", op), conn.Request(op), slices.Contains(asked, op))
	}
	for _, op := range []int{math.MinInt, math.MaxInt, 1 << 32, 1<<32 + api.AddReq, -api.AddReq} {
		is(t, fmt.Sprint("Request of ", op), conn.Request(op), false)
	}
}

// The chapter's example.
func TestExample(t *testing.T) {
	fed(t, "a BindReq, an UnbindReq and another BindReq", conn.New(), true, []string{bytesOf(bind(1), unbind(2), bind(3))}, false, bind(1))
}

// P27.2: a connection is open, with nobody bound, and what is asked for comes as it is.
func TestNew(t *testing.T) {
	c := conn.New()
	is(t, "it is closed", c.Closed(), false)
	is(t, "who is bound", text(c.Who()), "-")
	fed(t, "nothing", c, false, nil, false)
	fed(t, "parts without bytes", c, false, []string{"", ""}, false)
	for _, m := range requests() {
		fed(t, fmt.Sprint("request ", m.Op), c, false, []string{bytesOf(m)}, false, m)
	}
	fed(t, "all of them", c, false, []string{bytesOf(requests()...)}, false, requests()...)
	is(t, "none is bound by what comes", text(c.Who()), "-")
}

// P27.2: a request comes when all of it is there, not ahead of that.
func TestParts(t *testing.T) {
	c := conn.New()
	s := bytesOf(bind(1), search(2))
	first := len(bytesOf(bind(1)))
	for i := range len(s) {
		var want []api.Msg
		switch i + 1 {
		case first:
			want = []api.Msg{bind(1)}
		case len(s):
			want = []api.Msg{search(2)}
		}
		fed(t, fmt.Sprint("byte ", i), c, false, []string{s[i : i+1]}, false, want...)
	}
	for i := range len(s) + 1 {
		fed(t, fmt.Sprint("cut at ", i), c, false, []string{s[:i], "", s[i:]}, false, bind(1), search(2))
	}
}

// P27.2: bytes that are no request close the connection, behind what was asked ahead of them; what is behind doesn't come.
func TestBroken(t *testing.T) {
	for what, s := range broken() {
		for _, behind := range []string{"", bytesOf(bind(3)), bytesOf(unbind(3)), "\x31"} {
			c := conn.New()
			c.Bind(name("cn=a"))
			fed(t, what, c, true, []string{bytesOf(search(1), bind(2)) + s + behind}, true, search(1), bind(2))
			is(t, what+": nobody is bound", text(c.Who()), "-")
			fed(t, what+": closed", c, true, []string{bytesOf(bind(4))}, false)
			c = conn.New()
			fed(t, what+" alone", c, true, []string{s, behind}, true)
			fed(t, what+": closed", c, true, []string{s}, false)
		}
	}
}

// P27.2: as soon as it can be told that bytes are no request, not ahead of that.
func TestBrokenByByte(t *testing.T) {
	for what, s := range broken() {
		c := conn.New()
		for i := range len(s) {
			fed(t, fmt.Sprint(what, ", byte ", i), c, i == len(s)-1, []string{s[i : i+1]}, i == len(s)-1)
		}
	}
}

// P27.2: an UnbindReq closes the connection, and isn't told.
func TestUnbind(t *testing.T) {
	for _, behind := range []string{"", bytesOf(bind(3)), "\x31", bytesOf(unbind(0))} {
		c := conn.New()
		c.Bind(name("cn=a"))
		fed(t, "an Unbind", c, true, []string{bytesOf(search(1), unbind(2)) + behind}, false, search(1))
		is(t, "nobody is bound", text(c.Who()), "-")
		fed(t, "closed", c, true, []string{bytesOf(bind(4))}, false)
		fed(t, "closed", c, true, []string{"\x31"}, false)
	}
	c := conn.New()
	fed(t, "with controls", c, true, []string{bytesOf(api.Msg{ID: 1, Op: api.UnbindReq, Controls: []api.Control{{OID: "1", Critical: true}}})}, false)
}

// P27.2: messages that are as long as may be, and longer ones, of which the length alone is enough.
func TestLong(t *testing.T) {
	m := api.Msg{ID: 1, Op: api.ExtendedReq, OID: "1.2", Has: true}
	m.Value = strings.Repeat("v", api.MaxPdu-len("\x02\x01\x01")-len("\x77\x83...\x80\x031.2\x81\x83..."))
	s := bytesOf(m)
	is(t, "its length", s[:5], "\x30\x83\x10\x00\x00")
	c := conn.New()
	fed(t, "as long as may be", c, false, []string{s}, false, m)
	fed(t, "again, without its last byte", c, false, []string{s[:len(s)-1]}, false)
	fed(t, "its last byte", c, false, []string{s[len(s)-1:]}, false, m)
	fed(t, "the length of a longer one", c, true, []string{"\x30\x83\x10\x00\x01"}, true)
}

// P27.2: Close, Bind and Who.
func TestWho(t *testing.T) {
	c := conn.New()
	for _, d := range []string{"cn=a", `CN=A  b+ou=\,X,dc=z`, "", "cn=b"} {
		c.Bind(name(d))
		want := d
		if d == "" {
			want = "-"
		}
		is(t, "who is bound", text(c.Who()), want)
		c.Feed(bytesOf(bind(1)))
		is(t, "still", text(c.Who()), want)
	}
	strange := api.DN{nil, {{Type: "", Value: "x"}, {Type: "no type"}}}
	c.Bind(strange)
	is(t, "what is no name", fmt.Sprintf("%q", c.Who()), `[[] [{"" "x"} {"no type" ""}]]`)
	c.Bind(name("cn=b"))
	c.Close()
	is(t, "it is closed", c.Closed(), true)
	is(t, "nobody is bound", text(c.Who()), "-")
	c.Bind(name("cn=c"))
	is(t, "nobody is bound behind it", text(c.Who()), "-")
	fed(t, "closed", c, true, []string{bytesOf(bind(1))}, false)
	c.Close()
	is(t, "it stays closed", c.Closed(), true)
	c = conn.New()
	c.Feed("\x30")
	c.Close()
	fed(t, "the bytes that waited play no part", c, true, []string{bytesOf(bind(1))[1:]}, false)
}

// P27.2: of a nil connection.
func TestNil(t *testing.T) {
	var c *conn.Conn
	fed(t, "Feed", c, true, []string{bytesOf(bind(1)), "\x31"}, false)
	c.Close()
	c.Bind(name("cn=a"))
	is(t, "Who", text(c.Who()), "-")
	is(t, "Closed", c.Closed(), true)
}

// P27.3: those messages that can be written, one behind the other.
func TestReply(t *testing.T) {
	is(t, "of none", conn.Reply(), "")
	good := append(append(requests(), responses()...), unbind(0))
	is(t, "of good ones", conn.Reply(good...), bytesOf(good...))
	long := api.Msg{ID: 1, Op: api.SearchEntry, DN: strings.Repeat("l", api.MaxPdu)}
	round := make([]api.Filter, 1)
	round[0] = api.Filter{Kind: api.Not, Kids: round}
	bad := []api.Msg{{ID: -1, Op: api.AddRes}, {ID: math.MaxInt, Op: api.AddRes}, {ID: 1, Op: 17}, {ID: 1, Op: -1}, {ID: 1, Op: api.BindReq}, {ID: 1, Op: api.AddRes, Code: -1}, {ID: 1, Op: api.SearchReq, Filter: round[0]}, long}
	for _, m := range bad {
		_, e := wire.Write(m)
		is(t, "it can be written", e == api.OK, false)
		is(t, "of a bad one", conn.Reply(m), "")
	}
	var mixed []api.Msg
	for i, m := range good {
		mixed = append(mixed, bad[i%len(bad)], m)
	}
	is(t, "of both", conn.Reply(append(mixed, bad...)...), bytesOf(good...))
}

// P27.3: the notice's bytes.
func TestNotice(t *testing.T) {
	oid := "1.3.6.1.4.1.1466.20036"
	is(t, "its bytes", fmt.Sprintf("%x", conn.Notice()), fmt.Sprintf("%x", "\x30\x24\x02\x01\x00\x78\x1f\x0a\x01\x02\x04\x00\x04\x00\x8a\x16"+oid))
	m, e := wire.Read(conn.Notice())
	is(t, "it is a message", e, api.OK)
	is(t, "what it says", said([]api.Msg{m}), said([]api.Msg{{Op: 24, Code: 2, OID: oid}}))
}

// P27.4: messages come as they were written, in whatever parts; and what isn't one ends them where it stands.
func TestSome(t *testing.T) {
	r := rand.New(rand.NewSource(27))
	faults := broken()
	faults["an Unbind"] = bytesOf(unbind(9))
	faults["nothing"] = ""
	whats := slices.Sorted(maps.Keys(faults))
	count := map[string]int{}
	for range 6000 {
		var msgs []api.Msg
		for range r.Intn(6) {
			msgs = append(msgs, someRequest(r))
		}
		what := whats[r.Intn(len(whats))]
		if r.Intn(2) == 0 {
			what = "nothing"
		}
		s := bytesOf(msgs...) + faults[what] + bytesOf(someRequest(r))[:r.Intn(5)]
		count[what]++
		c := conn.New()
		var got []api.Msg
		bads := 0
		for _, part := range group(r, cut(r, s)) {
			more, bad := c.Feed(part...)
			got = append(got, more...)
			if bad {
				bads++
			}
			is(t, "the last of all", bads == 0 || c.Closed(), true)
		}
		is(t, "the messages", said(got), said(msgs))
		is(t, what+": closed", c.Closed(), what != "nothing")
		is(t, what+": bad", bads == 1, what != "nothing" && what != "an Unbind")
	}
	for _, what := range whats {
		if count[what] < 50 {
			t.Errorf("too few of %s: %d", what, count[what])
		}
	}
}

// group answers parts as lists of some that come at one time.
func group(r *rand.Rand, parts []string) [][]string {
	var out [][]string
	for len(parts) > 0 {
		n := min(r.Intn(4), len(parts))
		out = append(out, parts[:n])
		parts = parts[n:]
	}
	return out
}

// P1: any bytes, in any parts: each Feed ends, and a connection that is closed stays so.
func TestAnyBytes(t *testing.T) {
	r := rand.New(rand.NewSource(1))
	seen := 0
	for range 20000 {
		s := []byte(bytesOf(someRequest(r), someRequest(r)))
		for range r.Intn(3) {
			s[r.Intn(len(s))] = []byte{0, 1, 2, 4, 48, 66, 127, 128, 129, 130, 132, 133, 255}[r.Intn(13)]
		}
		c := conn.New()
		for _, part := range cut(r, string(s)) {
			was := c.Closed()
			msgs, bad := c.Feed(part)
			is(t, "closed behind bad bytes", bad && !c.Closed(), false)
			is(t, "nothing where it is closed", was && (bad || len(msgs) > 0), false)
			seen += len(msgs)
			for _, m := range msgs {
				is(t, "a request", conn.Request(m.Op) && m.ID > 0 && m.Op != api.UnbindReq, true)
			}
		}
	}
	if seen < 5000 {
		t.Errorf("too few requests: %d", seen)
	}
}

// Memory: what is handed in stays as it is and isn't kept; answers share none.
func TestMemory(t *testing.T) {
	c := conn.New()
	parts := []string{bytesOf(search(1)), bytesOf(search(2)), "spare"}
	before := fmt.Sprintf("%q", parts)
	msgs, _ := c.Feed(parts[:2]...)
	is(t, "the parts", fmt.Sprintf("%q", parts), before)
	want := said(msgs)
	parts[0], parts[1] = "spoilt", "spoilt"
	is(t, "the answer", said(msgs), want)
	all := msgs[:cap(msgs)]
	all[0].Names[0], all[0].Filter.Kids[0].Attr, all[0].Controls[0].OID = "spoilt", "spoilt", "spoilt"
	is(t, "the second message", said(msgs[1:]), said([]api.Msg{search(2)}))
	fed(t, "once more", c, false, []string{bytesOf(search(3))}, false, search(3))

	d := append(name("cn=a+sn=b,dc=z"), name("cn=spare")...)
	c.Bind(d[:2])
	is(t, "the name that was handed in", text(d), "cn=a+sn=b,dc=z,cn=spare")
	d[0][0].Value, d[1] = "spoilt", nil
	is(t, "the name that is bound", text(c.Who()), "cn=a+sn=b,dc=z")
	who := c.Who()
	who[0][1].Value = "spoilt"
	who = append(who[:1], name("cn=spoilt")...)
	is(t, "the name that is bound", text(c.Who()), "cn=a+sn=b,dc=z")

	list := append(responses(), search(4))
	before = said(list)
	conn.Reply(list[:3]...)
	is(t, "the messages that were handed in", said(list), before)
}
