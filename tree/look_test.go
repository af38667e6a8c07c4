package tree_test

import (
	"fmt"
	"math"
	"math/rand"
	"strings"
	"testing"

	"castellan/api"
	"castellan/tree"
)

// long answers a name of one RDN of so many bytes.
func long(bytes int) api.DN { return api.DN{{{Type: "cn", Value: strings.Repeat("a", bytes-3)}}} }

// deep answers a name of so many RDNs.
func deep(rdns int) api.DN {
	var d api.DN
	for i := range rdns {
		d = append(d, api.RDN{{Type: "ou", Value: fmt.Sprint(i)}})
	}
	return d
}

// wide answers an RDN of so many types.
func wide(types int) api.RDN {
	var rdn api.RDN
	for i := range types {
		rdn = append(rdn, api.AVA{Type: fmt.Sprint("t", i), Value: "v"})
	}
	return rdn
}

// The chapter's example.
func TestExample(t *testing.T) {
	x := empty(t, name("dc=z"))
	for _, s := range []string{"dc=z", "ou=b,dc=z", "cn=a,ou=b,dc=z", "ou=a,dc=z"} {
		done(t, x, add(s))
	}
	is(t, "the order", names(x.View), "dc=z | ou=a,dc=z | ou=b,dc=z | cn=a,ou=b,dc=z")
	done(t, x, move("ou=b,dc=z", "ou=x,ou=a,dc=z"))
	is(t, "moved", names(x.View), "dc=z | ou=a,dc=z | ou=x,ou=a,dc=z | cn=a,ou=x,ou=a,dc=z")
}

// P16.1: New of suffixes, and of such as are none.
func TestNew(t *testing.T) {
	for _, c := range []struct {
		suffix api.DN
		want   api.Errno
	}{
		{name("dc=z"), api.OK}, {name("cn=A  b+ou=X,dc=z"), api.OK}, {name("cn="), api.OK}, {deep(32), api.OK}, {long(4096), api.OK}, {api.DN{wide(8)}, api.OK},
		{nil, api.ErrArg}, {api.DN{}, api.ErrArg}, {api.DN{nil}, api.ErrArg}, {api.DN{{}, {}}, api.ErrArg},
		{deep(33), api.ErrMany}, {api.DN{wide(9)}, api.ErrMany}, {long(4097), api.ErrLong},
		{api.DN{{{Type: "", Value: "a"}}}, api.ErrName}, {api.DN{{{Type: "1", Value: "a"}}}, api.ErrName},
		{api.DN{{{Type: "cn", Value: "a"}, {Type: "CN", Value: "b"}}}, api.ErrTwice},
	} {
		x, e := tree.New(c.suffix)
		is(t, "New of "+text(c.suffix), e, c.want)
		is(t, "a tree", x != nil, c.want == api.OK)
		if x != nil {
			is(t, "Suffix", text(x.Suffix()), text(c.suffix))
			is(t, "Len", x.Len(), 0)
			is(t, "Find", x.Find(c.suffix), 0)
			is(t, "Matched", len(x.Matched(c.suffix)), 0)
			absent(t, x.View, 0)
			absent(t, x.View, 1)
		}
	}
}

// P16.1: Len, Find, Entry and Kids; names stay as they are spelt, and are found however they are.
func TestLook(t *testing.T) {
	x := empty(t, name("dc=Z"))
	done(t, x, add("DC=z", api.Attr{Name: "dc", Values: []string{"z"}}))
	done(t, x, add("ou=B  b+cn=C,dc=Z", api.Attr{Name: "b"}, api.Attr{Name: "a", Values: []string{"y", "x", "y"}}))
	done(t, x, add(`CN=a\,b,cn=c+OU=b b,dC=z`))
	is(t, "all", all(x.View), `3 1 DC=z dc: ["z"] 1 | 2 ou=B  b+cn=C,dc=Z b: []; a: ["y" "x" "y"] 1 | 3 CN=a\,b,cn=c+OU=b b,dC=z  0`)
	is(t, "Suffix", text(x.Suffix()), "dc=Z")
	for _, c := range []struct {
		text string
		id   int
	}{
		{"dc=z", 1}, {"Dc=Z", 1}, {"ou=b b+cn=c,dc=z", 2}, {"CN=c+OU=B b,DC=Z", 2}, {`cn=a\,B,cn=c+ou=b b,dc=z`, 3}, {`cn=A\2cb,ou=B b+cn=\ C,dc=z`, 3},
		{"", 0}, {"dc=y", 0}, {"cn=z", 0}, {"ou=b b,dc=z", 0}, {"ou=bb+cn=c,dc=z", 0}, {"ou=b b+cn=c", 0}, {"cn=a,cn=c+ou=b b,dc=z", 0}, {"dc=z,dc=z", 0}, {"dc=z,ou=b b+cn=c", 0}, {`cn=a\,b,dc=z`, 0},
	} {
		is(t, "Find of "+c.text, x.Find(name(c.text)), c.id)
	}
	for _, d := range []api.DN{deep(33), long(5000), {nil}, {{{Type: "dc", Value: "z"}, {Type: "DC", Value: "z"}}}, {{{Type: "", Value: "z"}}}, {{}, {{Type: "dc", Value: "z"}}}} {
		is(t, "Find of what can't be printed", x.Find(d), 0)
		is(t, "Matched of it", len(x.Matched(d)), 0)
	}
	for _, id := range []int{0, -1, 4, 1000, math.MinInt, math.MaxInt, 1<<32 + 1} {
		absent(t, x.View, id)
	}
}

// P16.1: Matched is the nearest one that is there, and a name is its own nearest.
func TestMatched(t *testing.T) {
	x := grown(t, "ou=S,dc=z", "cn=A,ou=s,dc=z", "cn=b,cn=a,ou=s,dc=Z")
	for _, c := range []struct{ text, want string }{
		{"ou=s,dc=z", "ou=S,dc=z"}, {"cn=A,OU=s,dc=z", "cn=A,ou=s,dc=z"}, {"cn=B,cn=a,ou=s,dc=z", "cn=b,cn=a,ou=s,dc=Z"},
		{"cn=x,ou=s,dc=z", "ou=S,dc=z"}, {"cn=b,ou=s,dc=z", "ou=S,dc=z"}, {"cn=b,cn=x,ou=s,dc=z", "ou=S,dc=z"}, {"cn=x,cn=a,ou=s,dc=z", "cn=A,ou=s,dc=z"},
		{"cn=x,cn=y,cn=z,cn=B,cn=a,ou=s,dc=z", "cn=b,cn=a,ou=s,dc=Z"},
		{"", ""}, {"dc=z", ""}, {"ou=s", ""}, {"ou=t,dc=z", ""}, {"cn=a,ou=t,dc=z", ""}, {"cn=a,dc=z", ""}, {"cn=a,ou=s,dc=y", ""}, {"ou=s,dc=z,cn=a", ""},
	} {
		is(t, "Matched of "+c.text, text(x.Matched(name(c.text))), c.want)
	}
	is(t, "of a name of 31 RDNs", text(x.Matched(append(deep(29), name("ou=s,dc=z")...))), "ou=S,dc=z")
	is(t, "of one that is too deep", len(x.Matched(append(deep(31), name("ou=s,dc=z")...))), 0)
}

// P16.2: Scope of each number; those beneath, and no others.
func TestScope(t *testing.T) {
	x := grown(t, "dc=z", "ou=b,dc=z", "cn=b,ou=b,dc=z", "cn=a,ou=b,dc=z", "sn=x,cn=b,ou=b,dc=z", "ou=a,dc=z", "ou=bb,dc=z", "cn=a,ou=bb,dc=z")
	for _, c := range []struct {
		id, scope int
		want      string
	}{
		{1, 0, "[1]"}, {1, 1, "[6 2 7]"}, {1, 2, "[1 6 2 4 3 5 7 8]"},
		{2, 0, "[2]"}, {2, 1, "[4 3]"}, {2, 2, "[2 4 3 5]"},
		{3, 1, "[5]"}, {3, 2, "[3 5]"}, {5, 0, "[5]"}, {5, 1, "[]"}, {5, 2, "[5]"}, {7, 2, "[7 8]"},
		{1, 3, "[]"}, {1, -1, "[]"}, {2, 4, "[]"}, {1, math.MaxInt, "[]"}, {1, math.MinInt, "[]"}, {1, 1 << 32, "[]"},
		{0, 0, "[]"}, {0, 2, "[]"}, {9, 2, "[]"}, {-1, 1, "[]"},
	} {
		is(t, fmt.Sprint("Scope of ", c.id, ", ", c.scope), fmt.Sprint(x.Scope(c.id, c.scope)), c.want)
	}
}

// P16.2: the order is by keys of first RDNs, byte by byte, and what lies under an entry follows that at once: also where
// a value begins as another one does, and goes on with what stands ahead of a comma, or with one.
func TestOrder(t *testing.T) {
	want := []string{
		"b=a+a=b", "a=c", "CN1=a", "cn=a+CN2=b", // its key is cn2=b+cn=a
		"cn=", "cn=!", `cn=\"`, `cn=\#`, `cn=\,`, "cn=A", "cn=a b", "cn=a!", "cn=a*", "sn=b+CN=a", "cn=a-", "cn=a=", `cn=a\+cn=b`, `cn=a\,`, "cn=aa", "CN=B", "cn=~", "cn=\xff",
	}
	r := rand.New(rand.NewSource(1))
	for range 20 {
		x := grown(t, "dc=z")
		for _, i := range r.Perm(len(want)) {
			done(t, x, add(want[i]+",dc=z"))
			done(t, x, add("cn=m,"+want[i]+",dc=z"))
			done(t, x, add("cn=K,"+want[i]+",dc=z"))
		}
		got := "dc=z"
		for _, s := range want {
			got += " | " + s + ",dc=z | cn=K," + s + ",dc=z | cn=m," + s + ",dc=z"
		}
		is(t, "the order", names(x.View), got)
		is(t, "of those beneath the suffix", namesOf(x.View, x.Scope(1, 1)), strings.Join(want, ",dc=z | ")+",dc=z")
	}
}

// Nil: of a nil view, or tree, there is nothing.
func TestNil(t *testing.T) {
	var v *tree.View
	is(t, "Suffix", len(v.Suffix()), 0)
	is(t, "Len", v.Len(), 0)
	is(t, "Find", v.Find(name("dc=z")), 0)
	is(t, "Find of the name without RDNs", v.Find(nil), 0)
	is(t, "Matched", len(v.Matched(name("dc=z"))), 0)
	for _, id := range []int{-1, 0, 1} {
		absent(t, v, id)
	}
	var x *tree.Tree
	for kind := -1; kind < 6; kind++ {
		u := api.Update{Kind: kind, DN: name("dc=z"), To: name("dc=y")}
		is(t, "Able", v.Able(u), api.OperationsErr)
		is(t, "Do", x.Do(u), api.OperationsErr)
	}
}
