package server_test

import (
	"fmt"
	"strings"
	"testing"

	"castellan/api"
	"castellan/conn"
)

// P28.3: the responses to all requests that came, in order; parts of one wait.
func TestFeed(t *testing.T) {
	w := sample(t)
	s := bytesOf(numberedAs(1, whoAmI()), numberedAs(2, compared("dc=z", "dc", "Z")), numberedAs(3, searched("dc=z", 0, "(dc=z)", "dc")), numberedAs(2147483647, deleted("dc=z")))
	want := "1 extended 0 value (); 2 compare 6; 3 entry DC=z [dc:z]; 3 search 0; 2147483647 delete 50"
	fed := func(k int, parts ...string) string {
		out, e := w.Feed(k, parts...)
		is(t, "the error", e, api.OK)
		return out
	}
	is(t, "at once", saying(t, fed(1, s)), want)
	is(t, "nothing", fed(1), "")
	is(t, "parts without bytes", fed(1, "", ""), "")
	for i := range s {
		is(t, "in two parts", saying(t, fed(1, s[:i], s[i:])), want)
		is(t, "at two times", saying(t, fed(1, s[:i])+fed(1, s[i:])), want)
		fed(2, s[:i])
		is(t, "another connection has nothing of it", saying(t, fed(1, s)), want)
		is(t, "at two times, another one between", saying(t, fed(2, s[i:])) != "", true)
		w.Renew(2)
	}
	byBytes := ""
	for i := range s {
		byBytes += fed(1, s[i:i+1])
	}
	is(t, "byte by byte", saying(t, byBytes), want)
}

// numberedAs answers a message with an ID.
func numberedAs(id int, m api.Msg) api.Msg {
	m.ID = id
	return m
}

// P28.3, P7: bytes that are no request: the notice behind the responses, and that connection alone is closed.
func TestNotice(t *testing.T) {
	for what, s := range map[string]string{
		"another tag": "\x31", "no length": "\x30\x80", "a length that is too long": "\x30\x83\x10\x00\x01", "no message": "\x30\x02\x02\x00",
		"the ID 0": bytesOf(deleted("cn=b,ou=x,dc=z")), "an Unbind with the ID 0": bytesOf(api.Msg{Op: api.UnbindReq}), "a response": bytesOf(api.Msg{ID: 1, Op: api.AddRes}), "an operation that is none": "\x30\x05\x02\x01\x01\x5e\x00",
	} {
		w := sample(t)
		before := entries(w.View())
		w.does(1, bound("cn=root", "s"))
		out, e := w.Feed(1, bytesOf(numberedAs(1, whoAmI())), s, bytesOf(numberedAs(2, deleted("cn=b,ou=x,dc=z"))))
		is(t, what+": the error", e, api.OK)
		is(t, what, out, bytesOf(api.Msg{ID: 1, Op: api.ExtendedRes, Has: true, Value: "dn:cn=root"})+conn.Notice())
		is(t, what+": closed", w.Closed(1), true)
		is(t, what+": nobody is bound", text(w.Who(1)), "-")
		is(t, what+": nothing has changed", entries(w.View()), before)
		out, e = w.Feed(1, bytesOf(numberedAs(2, whoAmI())), "\x31")
		is(t, what+": closed", fmt.Sprint(out, e), "error 0")
		for k := range api.MaxConns {
			is(t, what+": the others", w.Closed(k), k == 1)
		}
		is(t, what+": bound elsewhere", text(w.Who(0)), "cn=root")
		w.does(0, deleted("cn=b,ou=x,dc=z"))
	}
	w := sample(t)
	out, _ := w.Feed(1, "\x30\x80")
	is(t, "its bytes", fmt.Sprintf("%x", out), fmt.Sprintf("%x", "\x30\x24\x02\x01\x00\x78\x1f\x0a\x01\x02\x04\x00\x04\x00\x8a\x161.3.6.1.4.1.1466.20036"))
}

// P28.3: an UnbindReq closes the connection, without a response, and without a notice; what is behind it isn't done.
func TestUnbind(t *testing.T) {
	w := sample(t)
	unbind := bytesOf(api.Msg{ID: 2, Op: api.UnbindReq})
	out, e := w.Feed(0, bytesOf(numberedAs(1, whoAmI()))+unbind+bytesOf(numberedAs(3, deleted("cn=b,ou=x,dc=z")))+"\x31")
	is(t, "the error", e, api.OK)
	is(t, "the responses", saying(t, out), "1 extended 0 value (dn:cn=root)")
	is(t, "closed", w.Closed(0), true)
	is(t, "nobody is bound", text(w.Who(0)), "-")
	is(t, "nothing is deleted", w.View().Len(), 5)
	out, e = w.Feed(1, unbind)
	is(t, "alone", fmt.Sprint(out, e), "error 0")
	is(t, "closed", w.Closed(1), true)
}

// P28.3, P28.6: requests are done by who is bound ahead of them, also where the bytes behind them close the connection.
func TestWhoIsBound(t *testing.T) {
	for _, behind := range []string{"", "\x31", bytesOf(api.Msg{ID: 9, Op: api.UnbindReq}), "\x30"} {
		bind := bytesOf(numberedAs(1, bound("cn=A,ou=x,dc=z", "p")))
		s := bytesOf(numberedAs(2, whoAmI()), numberedAs(3, bound("", "")), numberedAs(4, whoAmI()), numberedAs(5, bound("cn=root", "s")), numberedAs(6, deleted("cn=b,ou=x,dc=z")), numberedAs(7, whoAmI()), numberedAs(8, bound("cn=root", "wrong")), numberedAs(9, whoAmI()))
		want := "2 extended 0 value (dn:cn=A,OU=x,dc=z); 3 bind 0; 4 extended 0 value (); 5 bind 0; 6 delete 0; 7 extended 0 value (dn:cn=root); 8 bind 49; 9 extended 0 value ()"
		if behind == "\x31" {
			want += "; 0 extended 2 oid 1.3.6.1.4.1.1466.20036"
		}
		w := sample(t)
		out, _ := w.Feed(1, bind, s, behind)
		is(t, "at once", saying(t, out), "1 bind 0; "+want)
		w = sample(t)
		w.Feed(1, bind)
		out, _ = w.Feed(1, s, behind)
		is(t, "bound ahead", saying(t, out), want)
		w = sample(t)
		w.Feed(1, bind)
		out, _ = w.Feed(1, bytesOf(numberedAs(2, searched("dc=z", 2, "(cn=b)", "cn"))), behind)
		is(t, "a search", strings.HasPrefix(saying(t, out), "2 entry cn=b,ou=x,dc=z [cn:b]; 2 search 0"), true)
		is(t, "still bound", text(w.Who(1)), map[bool]string{true: "-", false: "cn=A,OU=x,dc=z"}[w.Closed(1)])
	}
}

// P28.3: where the disk has an error, the responses to what is ahead, and that error; then all is closed.
func TestDiskError(t *testing.T) {
	for _, behind := range []string{"", "\x31", bytesOf(api.Msg{ID: 9, Op: api.UnbindReq})} {
		w := sample(t)
		w.disk.Cut(3, api.Loss{Torn: -1}) // an update of one sector has two calls
		s := bytesOf(numberedAs(1, modified("dc=z", "+description:d")), numberedAs(2, whoAmI()), numberedAs(3, deleted("cn=b,ou=x,dc=z")), numberedAs(4, whoAmI()), numberedAs(5, deleted("cn=c,ou=x,dc=z")))
		out, e := w.Feed(0, s, behind)
		is(t, "the error", e, api.ErrPower)
		is(t, "the responses ahead", saying(t, out), "1 modify 0; 2 extended 0 value (dn:cn=root)")
		is(t, "what isn't done", w.View().Len(), 5)
		is(t, "who is bound", text(w.Who(0)), map[bool]string{true: "cn=root", false: "-"}[behind == ""])
		w.disk.On()
		for k := range api.MaxConns {
			out, e = w.Feed(k, bytesOf(numberedAs(1, whoAmI())))
			is(t, "closed", fmt.Sprint(out, e), "error 12")
			out, e = w.Feed(k)
			is(t, "closed, of nothing", fmt.Sprint(out, e), "error 12")
			is(t, "Closed", w.Closed(k), k == 0 && behind != "")
		}
		_, e = w.Feed(64)
		is(t, "of no connection", e, api.ErrArg)
		w.Feed(1, "\x31")
		is(t, "it isn't fed", w.Closed(1), false)
		is(t, "Tick", w.Tick(3), api.OK)
		is(t, "Now", w.Now(), 3)
		is(t, "Renew", w.Renew(0), api.OK)
		_, e = w.Feed(0, bytesOf(numberedAs(1, whoAmI())))
		is(t, "closed", e, api.ErrClosed)
		is(t, "the view", w.attrsOf("dc=z"), "changedAt:0 createdAt:0 dc:z description:d objectClass:domain")
		again := opened(t, w.disk, config(), 0)
		is(t, "opened again", entries(again.View()), entries(w.View()))
	}
}

// P28.3, P28.4: a bind whose update meets the disk's error binds nobody.
func TestDiskErrorOfBind(t *testing.T) {
	w := sample(t)
	w.wants("a failure", 0, bound("cn=a,ou=x,dc=z", "q"), "bind 49")
	w.does(0, bound("cn=root", "s"))
	w.disk.Cut(1, api.Loss{Torn: -1})
	out, e := w.Feed(0, bytesOf(numberedAs(1, bound("cn=a,ou=x,dc=z", "p"))))
	is(t, "the error", e, api.ErrPower)
	is(t, "the responses", out, "")
	is(t, "nobody is bound", text(w.Who(0)), "-")
}

// P28.3: what fits the disk no more is Other, and closes nothing.
func TestFull(t *testing.T) {
	w := sample(t)
	before := entries(w.View())
	w.disk.Limit(0)
	w.wants("an add", 0, added("cn=d,dc=z", "objectClass:person", "cn:d", "sn:n"), "add 80")
	w.wants("a modify", 0, modified("dc=z", "+description:d"), "modify 80")
	w.wants("a delete", 0, deleted("cn=b,ou=x,dc=z"), "delete 80")
	w.wants("a move", 0, moved("cn=b,ou=x,dc=z", "cn=e"), "move 80")
	w.wants("a failure of a bind", 1, bound("cn=a,ou=x,dc=z", "q"), "bind 80")
	w.wants("a bind without an update", 1, bound("cn=a,ou=x,dc=z", "p"), "bind 0")
	is(t, "who is bound", text(w.Who(1)), "cn=A,OU=x,dc=z")
	is(t, "nothing has changed", entries(w.View()), before)
	w.wants("neither has the index", 0, searched("dc=z", 2, "(|(cn=d)(cn=e))"), "search 0")
	w.disk.Limit(2000)
	w.wants("a failure of a bind", 2, bound("cn=a,ou=x,dc=z", "q"), "bind 49")
	w.disk.Limit(0)
	w.wants("the right password, whose update doesn't fit", 1, bound("cn=a,ou=x,dc=z", "p"), "bind 80")
	is(t, "nobody is bound", text(w.Who(1)), "-")
	w.disk.Limit(2000)
	w.does(0, deleted("cn=b,ou=x,dc=z"))
	var long []string
	for i := range 70 {
		long = append(long, fmt.Sprintf("%02d%s", i, strings.Repeat("d", 4000)))
	}
	w.wants("an update that is too long", 0, modified("dc=z", "=description:"+strings.Join(long, "|")), "modify 80")
	w.does(0, deleted("cn=c,ou=x,dc=z"))
}
