package server_test

import (
	"fmt"
	"math"
	"math/rand"
	"strings"
	"testing"

	"castellan/api"
	"castellan/disk"
	"castellan/oper"
	"castellan/server"
)

// step is a request on a connection.
type step struct {
	k int
	m api.Msg
}

// steps lead through both halves of a disk of 90 sectors several times; not each of them is an update, or is done.
func steps() []step {
	long := strings.Repeat("d", 500)
	out := []step{
		{0, bound("cn=root", "s")}, {0, added("dc=z", "objectClass:domain", "dc:z")}, {1, added("cn=x,dc=z", "objectClass:person")},
		{0, added("cn=a,dc=z", "objectClass:person", "cn:a", "sn:n", "userPassword:p")}, {1, bound("cn=a,dc=z", "q")}, {1, bound("cn=a,dc=z", "p")}, {0, added("cn=a,dc=z", "objectClass:person", "cn:a", "sn:n")},
		{0, added("ou=x,dc=z", "objectClass:organizationalUnit", "ou:x")}, {0, moved("cn=a,dc=z", "cn=b", "ou=x,dc=z")}, {0, modified("dc=z", "=description:"+long)}, {1, bound("cn=b,ou=x,dc=z", "q")}, {1, bound("cn=b,ou=x,dc=z", "q")}, {1, bound("cn=b,ou=x,dc=z", "p")},
		{0, moved("ou=x,dc=z", "ou=y")}, {0, extended(oper.Passwd, "\x30\x15\x80\x0ecn=b,ou=y,dc=z\x82\x03new")}, {1, bound("cn=b,ou=y,dc=z", "new")}, {1, whoAmI()}, {0, modified("dc=z", "=description:"+long+"e")}, {0, deleted("ou=y,dc=z")}, {0, deleted("cn=b,ou=y,dc=z")},
	}
	for i := range 6 {
		out = append(out, step{0, modified("ou=y,dc=z", fmt.Sprint("=description:", long, i))})
	}
	return append(out, step{0, deleted("ou=y,dc=z")}, step{2, searched("dc=z", 2, "(dc=z)", "dc")})
}

// stages answers the entries ahead of each step, and behind the last one, and what each step is answered.
func stages(t *testing.T) (views, answers []string) {
	w := opened(t, disk.New(90), config(), 0)
	views = []string{""}
	for _, s := range steps() {
		answers = append(answers, w.ask(s.k, s.m))
		views = append(views, entries(w.View()))
	}
	return views, answers
}

// losses are losses of power among few sectors, each of them torn at some places.
func losses() []api.Loss {
	list := []api.Loss{{Keep: math.MaxUint64, Torn: -1}}
	for keep := range 4 {
		list = append(list, api.Loss{Keep: uint64(keep), Torn: -1}, api.Loss{Keep: uint64(keep), Torn: 0, At: 4}, api.Loss{Keep: uint64(keep), Torn: 1, At: 60})
	}
	return list
}

// P28.7, P4: the power is lost at each call for the disk, in many ways: behind it there are the entries behind all updates of
// which Success was told, and perhaps the one under way.
func TestPowerAtEachCall(t *testing.T) {
	views, answers := stages(t)
	is(t, "what is done", strings.Join(answers, " "), "5 bind 0 5 add 0 5 add 50 5 add 0 5 bind 49 5 bind 0 5 add 68 5 add 0 5 move 0 5 modify 0 5 bind 49 5 bind 49 5 bind 49 5 move 0 5 extended 0 5 bind 0 5 extended 0 value (dn:cn=b,ou=y,dc=z) 5 modify 0 5 delete 66 5 delete 0 5 modify 0 5 modify 0 5 modify 0 5 modify 0 5 modify 0 5 modify 0 5 delete 0 5 entry dc=z [dc:z]; 5 search 0")
	lost, kept := 0, 0
	for _, l := range losses() {
		calls := 0
		for lostAt(t, calls+1, l, views, answers, &lost, &kept) {
			calls++
		}
		if calls < 100 {
			t.Errorf("there are %d calls alone", calls)
		}
		if t.Failed() {
			t.Fatalf("%v", l)
		}
	}
	if lost < 50 || kept < 50 {
		t.Errorf("of updates under way %d were lost, and %d there", lost, kept)
	}
}

// lostAt cuts the power at the n-th call, opens the disk again, and goes on with the steps; false, where there is no such call.
func lostAt(t *testing.T, n int, l api.Loss, views, answers []string, lost, kept *int) bool {
	t.Helper()
	d := disk.New(90)
	d.Cut(n, l)
	s, e := server.Open(d, config(), 0)
	at := 0
	for todo := steps(); e == api.OK && at < len(todo); {
		var out string
		todo[at].m.ID = 5
		out, e = s.Feed(todo[at].k, bytesOf(todo[at].m))
		if e == api.OK {
			is(t, "the answer", saying(t, out), answers[at])
			at++
		} else {
			is(t, "no answer", out, "")
		}
	}
	if e == api.OK {
		return false
	}
	is(t, "the error", e, api.ErrPower)
	d.On()
	if s != nil {
		is(t, "the entries", entries(s.View()), views[at])
		_, e := s.Feed(0, bytesOf(numberedAs(1, whoAmI())))
		is(t, "closed", e, api.ErrClosed)
	}
	w := opened(t, d, config(), 0)
	switch got := entries(w.View()); {
	case got == views[at]:
		*lost++
	case s != nil:
		is(t, fmt.Sprint("opened behind a cut at ", n), got, views[at+1])
		*kept++
		at++
	default:
		t.Errorf("opened behind a cut in Open: %s", got)
	}
	w.does(0, bound("cn=root", "s"))
	for _, s := range steps()[at:] {
		w.ask(s.k, s.m)
	}
	is(t, "the names in the end", namesOf(entries(w.View())), namesOf(views[len(views)-1]))
	return true
}

// namesOf answers the names of entries that are told as a text, as stamps hang on who was bound, and on the salt.
func namesOf(text string) string {
	var out []string
	for _, e := range strings.Split(text, " / ") {
		d, _, _ := strings.Cut(e, " ")
		out = append(out, d)
	}
	return strings.Join(out, " ")
}

// P28.7, P4: long ways by chance, with losses of power at any time.
func TestLongWays(t *testing.T) {
	lost, kept := 0, 0
	for seed := range 60 {
		r := chance{rand.New(rand.NewSource(int64(seed)))}
		l, k := r.longWay(t)
		lost, kept = lost+l, kept+k
		if t.Failed() {
			t.Fatalf("seed %d", seed)
		}
	}
	if lost < 50 || kept < 50 {
		t.Errorf("of updates under way %d were lost, and %d there", lost, kept)
	}
}

// longWay goes on for some steps, and answers how many updates under way were lost, and how many were there.
func (r chance) longWay(t *testing.T) (lost, kept int) {
	t.Helper()
	c := config()
	p := newPlain(t, c, 0)
	root := bytesOf(numberedAs(1, bound("cn=root", "s")))
	w := opened(t, disk.New(300+r.Intn(300)), c, 0)
	p.feed(0, root)
	w.Feed(0, root)
	for range 60 {
		m := r.person(p)
		if r.in(2) {
			m = r.msg(p, 0)
		}
		m.ID = 5
		if r.in(3) {
			w.disk.Cut(1+r.Intn(6), api.Loss{Keep: r.Uint64(), Torn: r.Intn(8) - 3, At: r.Intn(140) - 5})
		}
		before := entries(w.View())
		out, e := w.Feed(0, bytesOf(m))
		is(t, "the entries", entries(w.View()) == before, e != api.OK || !p.changes(m))
		if e == api.OK && strings.HasSuffix(saying(t, out), " 80") {
			return lost, kept // the disk is full
		}
		if e == api.OK {
			is(t, "the answer", saying(t, out), saying(t, p.feed(0, bytesOf(m))))
		}
		if e == api.OK && r.Intn(8) > 0 {
			continue
		}
		w.disk.Crash(api.Loss{Keep: r.Uint64(), Torn: r.Intn(8) - 3, At: r.Intn(140) - 5})
		w = opened(t, w.disk, c, 0)
		switch got := entries(w.View()); {
		case got == before && e != api.OK:
			lost++
		case e != api.OK:
			kept++
			p.feed(0, bytesOf(m))
		}
		is(t, "opened", entries(w.View()), entries(p.View))
		p.again()
		p.feed(0, root)
		w.Feed(0, root)
	}
	return lost, kept
}

// changes tells whether a request by who is bound on connection 0 comes to an update that changes something.
func (p *plain) changes(m api.Msg) bool {
	if m.Op == api.SearchReq || m.Op == api.AbandonReq || len(m.Controls) > 0 && m.Controls[len(m.Controls)-1].Critical {
		return false
	}
	a := oper.Do(p.Env, p.lines[0].who, m, p.now, p.salt)
	if !a.Do {
		return false
	}
	if a.U.Kind == api.Added || a.U.Kind == api.Deleted || a.U.Kind == api.Moved && text(a.U.DN) != text(a.U.To) {
		return true
	}
	_, was := p.View.Entry(p.View.Find(a.U.DN))
	return attributes(was) != attributes(a.U.Attrs)
}
