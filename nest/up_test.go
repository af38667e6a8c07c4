package nest_test

import (
	"strconv"
	"testing"

	"castellan/nest"
)

// listOf answers the list of a thing.
func listOf(x thing) []thing { return x.list }

// upShape is what a thing comes to: its shape.
func upShape(x thing) string {
	return nest.Up(x, listOf, func(x thing, below []string) string {
		out := x.name + "("
		for _, s := range below {
			out += s
		}
		return out + ")"
	}, "!")
}

// Things come to what those beneath them do, one behind the other, also of a list that stands in two places.
func TestUp(t *testing.T) {
	is(t, "a thing alone", upShape(thing{name: "a"}), "a()")
	is(t, "a thing with an empty list", upShape(thing{name: "a", list: []thing{}}), "a()")
	is(t, "a sample", upShape(thing{name: "all", list: sample()}), "all(a(x(y())z())b()c(d(x(y())z())))")
	list := sample()
	is(t, "parts of one list", upShape(thing{name: "all", list: []thing{{name: "1", list: list[:1]}, {name: "2", list: list[:2]}, {name: "3", list: list[1:]}}}),
		"all(1(a(x(y())z()))2(a(x(y())z())b())3(b()c(d(x(y())z()))))")
}

// What below tells is gone through, and nothing else.
func TestUpBelow(t *testing.T) {
	count := nest.Up(thing{name: "all", list: sample()}, func(x thing) []thing {
		if x.name == "a" || x.name == "z" {
			return nil
		}
		return x.list
	}, func(x thing, below []int) int {
		n := 1
		for _, m := range below {
			n += m
		}
		return n
	}, 0)
	is(t, "how many", count, 8)
}

// Things deeper than calls within calls can follow.
func TestUpDeep(t *testing.T) {
	const depth = 2000000
	var list []thing
	for range depth {
		list = []thing{{name: "a"}, {name: "b", list: list}}
	}
	sum := func(_ thing, below []int) int {
		n := 1
		for _, m := range below {
			n += m
		}
		return n
	}
	is(t, "how many", nest.Up(thing{list: list}, listOf, sum, 0), 2*depth+1)
}

// A list that stands in two places of one that does so too, and so on, is gone through once.
func TestUpShared(t *testing.T) {
	const levels = 60
	var list []thing
	for i := range levels {
		name := strconv.Itoa(i)
		list = []thing{{name: name, list: list}, {name: name, list: list}}
	}
	calls := 0
	sum := func(_ thing, below []int) int {
		calls++
		n := 0
		for _, m := range below {
			n += m
		}
		return max(1, n)
	}
	is(t, "how many", nest.Up(thing{list: list}, listOf, sum, 0), 1<<levels)
	is(t, "how often it was asked", calls, 2*levels+1)
}

// A list that stands beneath itself.
func TestUpRound(t *testing.T) {
	list := []thing{{name: "a"}, {name: "b"}}
	list[0].list = []thing{{name: "c", list: list}, {name: "d", list: list[:1]}}
	is(t, "round", upShape(thing{name: "all", list: list}), "all(a(!d(!))b())")
	self := []thing{{name: "a"}}
	self[0].list = self
	is(t, "itself", upShape(self[0]), "a(!)")
}
