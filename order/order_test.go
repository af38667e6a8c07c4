// Package order, which has tests alone, looks through the program for what would hang on an order that the language
// leaves open: a variable is read, and beside that something is called that may change it. Calls have an order among
// each other, but not calls and reading. (What a function literal changes of the variables around it isn't seen.)
package order

import (
	"go/parser"
	"strings"
	"testing"
)

// layers are the packages of the layers; those that they import are looked through as well.
const layers = "octet crc sha pass disk journal tlv feed dn filt wire syntax schema entry check tree record store index plan truth acl policy scan oper page conn server"

// TestProgram: nothing in the program hangs on an order that is open.
func TestProgram(t *testing.T) {
	l := newLook("..", "castellan")
	for _, name := range strings.Fields(layers) {
		if _, err := l.Import("castellan/" + name); err != nil {
			t.Error(err)
		}
	}
	for _, what := range l.search() {
		t.Error(what)
	}
}

// kit is what the examples are told with.
const kit = `package p

type inner struct{ n int }

func (i *inner) up() int { i.n++; return i.n }

type thing struct {
	n    int
	list []int
	in   inner
	to   *inner
}

func (x *thing) set() int    { x.n = 1; return 1 }
func (x *thing) far() int    { return x.set() }
func (x *thing) ask() int    { return x.n }
func (x thing) copied() int  { return x.n }
func (x *thing) take(thing)  {}
func (x *thing) both(a, b int) {}
func use(...any) int         { return 0 }
func at(x *thing) int        { return x.n }
func other(x thing, n int) thing { return x }
`

// TestLook: examples of what is found, and of what isn't.
func TestLook(t *testing.T) {
	for _, c := range []struct {
		body string
		want int
	}{
		// As it stood in the journal: a copy of a variable that a call changes.
		{"next := thing{}; x.take(other(next, next.set()))", 1},
		{"next := thing{}; use(next, next.far())", 1},
		{"next := thing{}; use(next.n, next.set())", 1},
		{"next := thing{}; use(next.set(), next.n)", 1},
		{"next := thing{}; use(next.copied(), next.set())", 1},
		{"next := thing{}; use(next, next.ask())", 0},
		{"next := thing{}; e := next.set(); use(next, e)", 0},
		{"next := thing{}; use(&next, next.set())", 0},
		{"next := thing{}; use(next, next.in.up())", 1},
		{"next := thing{}; use(next.n, next.in.up())", 0},
		{"next := thing{}; use(next, next.to.up())", 0},
		{"next := thing{}; use(next.to.n, next.to.up())", 1},
		{"next := thing{}; use(next, at(&next))", 1},
		{"next := thing{}; next.n = next.set()", 0},
		{"next := thing{}; next.n += next.set()", 1},
		// The same by pointers
		{"use(x, x.set())", 0},
		{"use(*x, x.set())", 1},
		{"use(x.n, x.set())", 1},
		{"use(x.list[0], x.set())", 1},
		{"x.list[x.set()] = 2", 1},
		{"x.list[0] = x.set()", 1},
		{"x.n = x.set()", 0},
		{"x.both(x.set(), 2)", 0},
		{"x.both(x.set(), x.ask())", 0},
		{"use(x.n, at(x))", 1},
		{"use(x.set() + x.n)", 1},
		{"return x.n, x.set()", 1},
		{"return x.ask(), x.set()", 0},
		{"if x.n == x.set() { return 1, 2 }", 1},
		{"switch x.n { case x.set(): }", 0},
		// What has an order: what is given to a call, and the sides of && and ||
		{"use(x.set())", 0},
		{"at(&thing{n: x.n})", 0},
		{"if x.n == 1 && x.set() == 1 { return 1, 2 }", 0},
		{"if x.set() == 1 || x.n == 1 { return 1, 2 }", 0},
		{"use(x.n, x.n == 1 && x.set() == 1)", 1},
		// What is made and not called
		{"use(x.n, func() int { return x.set() })", 0},
		{"func() { use(x.n, x.set()) }()", 1},
		// Functions of the language
		{"use(x.list[0], copy(x.list, y.list))", 1},
		{"use(y.list[0], copy(x.list, y.list))", 0},
	} {
		l := newLook("", "p")
		f, err := parser.ParseFile(l.fset, "example", kit+"func f(x, y *thing) (int, int) { "+c.body+"; return 0, 0 }\n", 0)
		if err != nil {
			t.Errorf("%s: %v", c.body, err)
			continue
		}
		if _, err := l.add("p", f); err != nil {
			t.Errorf("%s: %v", c.body, err)
			continue
		}
		if got := l.search(); len(got) != c.want {
			t.Errorf("%s: %d found, wanted %d: %v", c.body, len(got), c.want, got)
		}
	}
}
