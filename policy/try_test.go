package policy_test

import (
	"fmt"
	"math"
	"math/rand"
	"testing"

	"castellan/api"
	"castellan/policy"
)

// P23.1: which policies may be.
func TestCheck(t *testing.T) {
	const most = api.MaxTime
	for _, p := range []api.Policy{{}, {Fails: 100}, {Fails: 1}, {Window: most}, {Lock: most}, {Age: most}, {Fails: 100, Window: most, Lock: most, Age: most}, {Window: 1, Lock: 1, Age: 1}} {
		is(t, fmt.Sprintf("%+v", p), policy.Check(p), api.OK)
	}
	for _, p := range strangePolicies() {
		is(t, fmt.Sprintf("%+v", p), policy.Check(p), api.ErrArg)
	}
}

// P23.1: the state of a password that is set, whatever the time; and what are states.
func TestStates(t *testing.T) {
	for _, now := range []int64{0, 1, 77, api.MaxTime, api.MaxTime + 1, -1, math.MaxInt64, math.MinInt64} {
		s := policy.New(now)
		is(t, fmt.Sprint("New of ", now), told(s), fmt.Sprint("failed [] locked -1 changed ", now))
		is(t, fmt.Sprint("is it a state? ", now), policy.Right(s), now >= 0 && now <= api.MaxTime)
	}
	for _, s := range []policy.State{{}, state(0, -1), state(0, 0), state(0, api.MaxTime), state(api.MaxTime, -1), state(9, 5, 1, 2), state(0, -1, 0), state(0, -1, 0, 0, 1, 1, 7), state(0, -1, api.MaxTime, api.MaxTime), state(0, -1, times(100, 3, 0)...), state(0, -1, times(100, 0, 1)...), {Fails: []int64{}}} {
		is(t, told(s), policy.Right(s), true)
	}
	for _, s := range strangeStates() {
		is(t, told(s), policy.Right(s), false)
	}
}

// What comes of a try are these numbers.
func TestNumbers(t *testing.T) {
	is(t, "good, bad, locked, stale", fmt.Sprint(policy.Good, policy.Bad, policy.Locked, policy.Stale), "0 1 2 3")
}

// The chapter's example.
func TestExample(t *testing.T) {
	p := api.Policy{Fails: 2, Window: 10, Lock: 5}
	s, v := policy.Try(p, policy.New(0), 1, false)
	is(t, "at 1", outcome(s, v), "failed [1] locked -1 changed 0: bad")
	s, v = policy.Try(p, s, 3, false)
	is(t, "at 3", outcome(s, v), "failed [] locked 3 changed 0: bad")
	is(t, "at 7", tried(t, p, s, 7, true), "failed [] locked 3 changed 0: locked")
	is(t, "at 8", tried(t, p, s, 8, true), "failed [] locked -1 changed 0: good")
}

// trial is a try, and what comes of it.
type trial struct {
	p     api.Policy
	s     policy.State
	now   int64
	right bool
	want  string
}

// tries: what comes of them is what is wanted.
func tries(t *testing.T, list []trial) {
	t.Helper()
	for _, c := range list {
		what := fmt.Sprintf("%+v, %s, at %d %v", c.p, told(c.s), c.now, c.right)
		is(t, what, tried(t, c.p, c.s, c.now, c.right), c.want)
	}
}

// P23.2: while it is locked the state stays as it is, whatever the password.
func TestLocked(t *testing.T) {
	const most = api.MaxTime
	lock, ever := api.Policy{Fails: 2, Lock: 5, Age: 3}, api.Policy{Fails: 2, Window: 3}
	s := state(1, 10, 4, 4, 9)
	same := told(s) + ": locked"
	tries(t, []trial{
		{lock, s, 10, true, same}, {lock, s, 10, false, same}, {lock, s, 14, true, same}, {lock, s, 14, false, same},
		// Ahead of the time since when it is locked
		{lock, s, 9, true, same}, {lock, s, 0, false, same},
		{lock, s, 15, true, told(s) + ": stale"}, {lock, s, 15, false, "failed [15] locked -1 changed 1: bad"},
		{ever, s, 10, true, same}, {ever, s, most, true, same}, {ever, s, most, false, same}, {ever, s, 0, true, same},
		{ever, state(0, 0), most, true, "failed [] locked 0 changed 0: locked"},
		{api.Policy{Lock: most}, state(0, 0), most - 1, true, "failed [] locked 0 changed 0: locked"},
		{api.Policy{Lock: most}, state(0, 0), most, true, "failed [] locked -1 changed 0: good"},
		{api.Policy{Lock: most}, state(0, 1), most, true, "failed [] locked 1 changed 0: locked"},
		{api.Policy{Lock: 1}, state(0, most), 0, true, "failed [] locked 9007199254740991 changed 0: locked"},
		{api.Policy{Lock: 1}, state(0, most), most, false, "failed [] locked 9007199254740991 changed 0: locked"},
		// A policy that locks nothing unlocks nothing
		{api.Policy{Lock: 5}, state(0, 3), 7, true, "failed [] locked 3 changed 0: locked"},
		{api.Policy{}, state(0, 3), 7, true, "failed [] locked 3 changed 0: locked"},
	})
}

// P23.2: the right password: the state is without failures, if that isn't too old.
func TestRight(t *testing.T) {
	const most = api.MaxTime
	old := api.Policy{Fails: 3, Window: 9, Lock: 5, Age: 10}
	s := state(20, -1, 21, 22)
	tries(t, []trial{
		{old, s, 29, true, "failed [] locked -1 changed 20: good"}, {old, s, 20, true, "failed [] locked -1 changed 20: good"},
		{old, s, 30, true, told(s) + ": stale"}, {old, s, 31, true, told(s) + ": stale"}, {old, s, most, true, told(s) + ": stale"},
		{old, s, 0, true, "failed [] locked -1 changed 20: good"},
		{old, s, 30, false, "failed [22 30] locked -1 changed 20: bad"},
		{old, state(20, 25, 21), 31, true, "failed [21] locked 25 changed 20: stale"}, {old, state(24, 25, 21), 31, true, "failed [] locked -1 changed 24: good"},
		{api.Policy{}, s, most, true, "failed [] locked -1 changed 20: good"}, {api.Policy{}, state(0, -1), most, true, "failed [] locked -1 changed 0: good"},
		{api.Policy{Age: most}, state(0, -1, 1), most, true, "failed [1] locked -1 changed 0: stale"}, {api.Policy{Age: most}, state(1, -1, 1), most, true, "failed [] locked -1 changed 1: good"},
		{api.Policy{Age: 1}, state(most, -1), 0, true, fmt.Sprintf("failed [] locked -1 changed %d: good", int64(most))}, {api.Policy{Age: 1}, state(0, -1), 0, true, "failed [] locked -1 changed 0: good"}, {api.Policy{Age: 1}, state(0, -1), 1, true, "failed [] locked -1 changed 0: stale"},
	})
}

// P23.2: a wrong password: which failures stay, where the new one stands, and when it is locked.
func TestFailed(t *testing.T) {
	const most = api.MaxTime
	window, ever, none := api.Policy{Fails: 9, Window: 10, Lock: 5}, api.Policy{Fails: 9}, api.Policy{Window: 10}
	tries(t, []trial{
		{window, state(7, -1, 10, 11, 20), 20, false, "failed [11 20 20] locked -1 changed 7: bad"},
		{window, state(7, -1, 10, 11, 20), 19, false, "failed [10 11 19 20] locked -1 changed 7: bad"},
		{window, state(7, -1, 10, 11, 20), 100, false, "failed [100] locked -1 changed 7: bad"},
		{window, state(7, -1, 90, 95), 3, false, "failed [3 90 95] locked -1 changed 7: bad"},
		{window, state(7, -1), 0, false, "failed [0] locked -1 changed 7: bad"},
		{ever, state(7, -1, 0, 1, 5), most, false, "failed [0 1 5 9007199254740991] locked -1 changed 7: bad"},
		{ever, state(7, -1, 4, 6), 5, false, "failed [4 5 6] locked -1 changed 7: bad"},
		{none, state(7, -1, 10, 11), 20, false, "failed [11 20] locked -1 changed 7: bad"},
		{api.Policy{Window: most}, state(0, -1, 0, 1), most, false, "failed [1 9007199254740991] locked -1 changed 0: bad"},
		{api.Policy{Window: 1}, state(0, -1, 4, 5, 6), 5, false, "failed [5 5 6] locked -1 changed 0: bad"},
		// A lock that is over takes what was ahead of it with it
		{window, state(7, 10, 8, 9, 15), 15, false, "failed [15] locked -1 changed 7: bad"},
		{api.Policy{Fails: 1, Lock: 5}, state(7, 10, 8, 9), 15, false, "failed [] locked 15 changed 7: bad"},
		{api.Policy{Fails: 2, Lock: 5}, state(7, 10, 8, 9), 15, false, "failed [15] locked -1 changed 7: bad"},
		// As many as the policy's, or more of them
		{api.Policy{Fails: 1}, state(7, -1), 3, false, "failed [] locked 3 changed 7: bad"},
		{api.Policy{Fails: 3}, state(7, -1, 1), 2, false, "failed [1 2] locked -1 changed 7: bad"},
		{api.Policy{Fails: 3}, state(7, -1, 1, 2), 2, false, "failed [] locked 2 changed 7: bad"},
		{api.Policy{Fails: 3}, state(7, -1, 8, 9), 2, false, "failed [] locked 2 changed 7: bad"},
		{api.Policy{Fails: 2}, state(7, -1, 1, 2, 3, 4), 5, false, "failed [] locked 5 changed 7: bad"},
		{api.Policy{Fails: 3, Window: 4}, state(7, -1, 1, 2), 5, false, "failed [2 5] locked -1 changed 7: bad"},
		{api.Policy{Fails: 3, Window: 5}, state(7, -1, 1, 2), 5, false, "failed [] locked 5 changed 7: bad"},
		// A password that is too old may be wrong
		{api.Policy{Fails: 3, Age: 1}, state(0, -1), 5, false, "failed [5] locked -1 changed 0: bad"},
	})
}

// P23.2: more than 100 failures are never kept; the first one goes.
func TestMost(t *testing.T) {
	full, free := state(7, -1, times(100, 10, 2)...), api.Policy{}
	behind := func(fails []int64) string { return told(state(7, -1, fails...)) + ": bad" }
	tries(t, []trial{
		{free, full, 500, false, behind(append(times(99, 12, 2), 500))},
		{free, full, 15, false, behind(append([]int64{12, 14, 15}, times(97, 16, 2)...))},
		{free, full, 12, false, behind(append([]int64{12, 12}, times(98, 14, 2)...))},
		{free, full, 10, false, behind(full.Fails)}, {free, full, 9, false, behind(full.Fails)},
		{free, state(7, -1, times(99, 10, 2)...), 9, false, behind(append([]int64{9}, times(99, 10, 2)...))},
		{api.Policy{Fails: 100}, state(7, -1, times(98, 10, 2)...), 500, false, behind(append(times(98, 10, 2), 500))},
		{api.Policy{Fails: 100}, state(7, -1, times(99, 10, 2)...), 500, false, "failed [] locked 500 changed 7: bad"},
		{api.Policy{Fails: 100}, full, 9, false, "failed [] locked 9 changed 7: bad"},
		{api.Policy{Window: 300}, full, 310, false, behind(append(times(99, 12, 2), 310))},
	})
	s := policy.New(7)
	for i := range 300 {
		s, _ = policy.Try(free, s, int64(i), false)
		is(t, fmt.Sprint("failures ", i), len(s.Fails), min(i+1, 100))
	}
	is(t, "the last", told(s), told(state(7, -1, times(100, 200, 1)...)))
}

// P23.2: of policies that may not be, of what is no state, and of a now that is no time: the state as it is, and Bad.
func TestStrange(t *testing.T) {
	good, s := api.Policy{Fails: 2, Window: 10, Lock: 5, Age: 100}, state(1, -1, 2)
	for _, right := range []bool{true, false} {
		for _, p := range strangePolicies() {
			is(t, fmt.Sprintf("%+v", p), tried(t, p, s, 3, right), told(s)+": bad")
			is(t, fmt.Sprintf("%+v, locked", p), tried(t, p, state(1, 3), 3, right), told(state(1, 3))+": bad")
		}
		for _, strange := range strangeStates() {
			is(t, told(strange), tried(t, good, strange, 3, right), told(strange)+": bad")
		}
		for _, now := range []int64{-1, api.MaxTime + 1, math.MinInt64, math.MaxInt64} {
			is(t, fmt.Sprint("at ", now), tried(t, good, s, now, right), told(s)+": bad")
			is(t, fmt.Sprint("at ", now, ", locked"), tried(t, good, state(1, 3, 1), now, right), told(state(1, 3, 1))+": bad")
		}
	}
}

// P23.2: tries by chance are as told in another way, and what is behind them is a state.
func TestSome(t *testing.T) {
	r := rand.New(rand.NewSource(23))
	count := map[string]int{}
	for range 40000 {
		p, s := somePolicy(r), someState(r)
		for range 4 {
			now, right := someTime(r), r.Intn(3) == 0
			what := fmt.Sprintf("%+v, %s, at %d %v", p, told(s), now, right)
			want, v := plain(p, s, now, right)
			is(t, what, tried(t, p, s, now, right), outcome(want, v))
			is(t, what+": is it a state", policy.Right(want), true)
			count[fmt.Sprint(right, v, s.Locked < 0, want.Locked < 0)]++
			s = want
		}
		if t.Failed() {
			t.FailNow()
		}
	}
	for _, what := range []string{"true 0 true true", "true 0 false true", "true 2 false false", "true 3 true true", "true 3 false false", "false 1 true true", "false 1 true false", "false 1 false true", "false 1 false false", "false 2 false false"} {
		if count[what] < 200 {
			t.Errorf("too few of %s: %v", what, count)
		}
	}
}

// P23.4: behind as many failures in a row as the policy's, within the Window, every try is Locked, as long as Lock says.
func TestRow(t *testing.T) {
	r := rand.New(rand.NewSource(234))
	for range 3000 {
		p := api.Policy{Fails: 1 + r.Intn(6), Window: r.Int63n(12), Lock: r.Int63n(30), Age: r.Int63n(3) * 1000}
		if r.Intn(20) == 0 {
			p.Fails = 100
		}
		now := int64(1000) + r.Int63n(100)
		s, v := policy.Try(p, policy.New(now), now, true)
		is(t, "the right one", v, policy.Good)
		first := now
		for range p.Fails {
			if next := now + r.Int63n(4); p.Window == 0 || next-first < p.Window {
				now = next
			}
			s, v = policy.Try(p, s, now, false)
			is(t, "a wrong one", v, policy.Bad)
		}
		for _, right := range []bool{true, false} {
			for later := range int64(40) {
				behind, v := policy.Try(p, s, now+later, right)
				what := fmt.Sprintf("%+v, %d later, %v: %s", p, later, right, told(s))
				if p.Lock == 0 || later < p.Lock {
					is(t, what, outcome(behind, v), told(s)+": locked")
				} else {
					is(t, what, v != policy.Locked, true)
				}
			}
		}
	}
}

// Memory: what is answered is other memory than what was handed in.
func TestMemory(t *testing.T) {
	for _, c := range []trial{
		{api.Policy{Fails: 9}, state(0, -1, 1, 2, 3), 4, false, "failed [1 2 3 4] locked -1 changed 0"},
		{api.Policy{Fails: 9}, state(0, -1, 5, 6), 4, false, "failed [4 5 6] locked -1 changed 0"},
		{api.Policy{}, state(0, -1, times(100, 1, 0)...), 1, false, told(state(0, -1, times(100, 1, 0)...))},
		{api.Policy{}, state(0, 3, 1, 2, 3), 4, false, "failed [1 2 3] locked 3 changed 0"},
		{api.Policy{Age: 1}, state(0, -1, 1, 2, 3), 4, true, "failed [1 2 3] locked -1 changed 0"},
		{api.Policy{Fails: -1}, state(0, -1, 1, 2, 3), 4, true, "failed [1 2 3] locked -1 changed 0"},
	} {
		before := told(c.s)
		first, _ := policy.Try(c.p, c.s, c.now, c.right)
		second, _ := policy.Try(c.p, c.s, c.now, c.right)
		all := first.Fails[:cap(first.Fails)]
		for i := range all {
			all[i] = 99
		}
		is(t, "what was handed in", told(c.s), before)
		is(t, "another answer", told(second), c.want)
	}
}
