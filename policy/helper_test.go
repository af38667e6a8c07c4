package policy_test

import (
	"fmt"
	"math"
	"math/rand"
	"slices"
	"testing"

	"castellan/api"
	"castellan/policy"
)

// is: a test fails, if something is another thing than was wanted.
func is[T comparable](t *testing.T, what string, got, want T) {
	t.Helper()
	if got != want {
		t.Errorf("%.2000s: %.1000s, wanted %.1000s", what, fmt.Sprint(got), fmt.Sprint(want))
	}
}

// state answers a state.
func state(changed, locked int64, fails ...int64) policy.State {
	return policy.State{Fails: fails, Locked: locked, Changed: changed}
}

// told answers a state as a text.
func told(s policy.State) string {
	return fmt.Sprint("failed ", append([]int64{}, s.Fails...), " locked ", s.Locked, " changed ", s.Changed)
}

// outcome answers what Try tells as a text.
func outcome(s policy.State, v int) string {
	words := map[int]string{policy.Good: "good", policy.Bad: "bad", policy.Locked: "locked", policy.Stale: "stale"}
	if words[v] == "" {
		return fmt.Sprint(told(s), ": ", v)
	}
	return told(s) + ": " + words[v]
}

// tried is Try's outcome; what is handed in stays as it was, spare room included.
func tried(t *testing.T, p api.Policy, s policy.State, now int64, right bool) string {
	t.Helper()
	s.Fails = append(s.Fails, 77, 0)[:len(s.Fails)]
	before := fmt.Sprint(s, s.Fails[:len(s.Fails)+2])
	got := outcome(policy.Try(p, s, now, right))
	is(t, "what Try was handed", fmt.Sprint(s, s.Fails[:len(s.Fails)+2]), before)
	return got
}

// times answers so many times, from first on, each step behind the one ahead of it.
func times(count int, first, step int64) []int64 {
	var out []int64
	for range count {
		out = append(out, first)
		first += step
	}
	return out
}

// plain is Try in another way: by times at which something ends.
func plain(p api.Policy, s policy.State, now int64, right bool) (policy.State, int) {
	if s.Locked >= 0 && (p.Lock == 0 || s.Locked+p.Lock > now) {
		return s, 2
	}
	if right && p.Age != 0 && s.Changed+p.Age <= now {
		return s, 3
	}
	if right {
		return policy.State{Locked: -1, Changed: s.Changed}, 0
	}
	all := []int64{now}
	for i := range s.Fails {
		if s.Locked < 0 && (p.Window == 0 || s.Fails[i]+p.Window > now) {
			all = append(all, s.Fails[i])
		}
	}
	slices.Sort(all)
	if p.Fails != 0 && p.Fails <= len(all) {
		return policy.State{Locked: now, Changed: s.Changed}, 1
	}
	for len(all) > 100 {
		all = all[1:]
	}
	return policy.State{Fails: all, Locked: -1, Changed: s.Changed}, 1
}

// someTime answers a time, often a small one, at times the last one there is.
func someTime(r *rand.Rand) int64 {
	switch r.Intn(20) {
	case 0:
		return api.MaxTime - r.Int63n(3)
	case 1:
		return r.Int63n(api.MaxTime + 1)
	}
	return r.Int63n(24)
}

// somePolicy answers a policy that may be.
func somePolicy(r *rand.Rand) api.Policy {
	p := api.Policy{Fails: r.Intn(5), Window: someTime(r), Lock: someTime(r), Age: someTime(r)}
	switch r.Intn(6) {
	case 0:
		p.Fails = r.Intn(101)
	case 1:
		p.Window = 0
	case 2:
		p.Lock = 0
	case 3:
		p.Age = 0
	}
	return p
}

// someState answers a state.
func someState(r *rand.Rand) policy.State {
	s := state(someTime(r), -1)
	if r.Intn(3) == 0 {
		s.Locked = someTime(r)
	}
	count := r.Intn(5)
	if r.Intn(8) == 0 {
		count = r.Intn(101)
	}
	for range count {
		s.Fails = append(s.Fails, someTime(r))
	}
	slices.Sort(s.Fails)
	return s
}

// strangePolicies are policies that may not be.
func strangePolicies() []api.Policy {
	out := []api.Policy{{Fails: -1}, {Fails: 101}, {Fails: math.MinInt}, {Fails: math.MaxInt}, {Fails: 256}, {Fails: 1 << 32}}
	for _, n := range []int64{-1, api.MaxTime + 1, math.MinInt64, math.MaxInt64, 1 << 60} {
		out = append(out, api.Policy{Window: n}, api.Policy{Lock: n}, api.Policy{Age: n}, api.Policy{Fails: 3, Window: 1, Lock: 1, Age: n})
	}
	return out
}

// strangeStates are no states.
func strangeStates() []policy.State {
	out := []policy.State{state(0, -1, 2, 1), state(0, -1, 1, 1, 0), state(0, -1, 3, 4, 2, 5), state(0, -1, times(101, 0, 0)...), state(0, -1, times(101, 5, 1)...), state(0, -1, times(5000, 5, 1)...), state(0, -2), state(0, -2, 1)}
	for _, n := range []int64{-1, api.MaxTime + 1, math.MinInt64, math.MaxInt64} {
		out = append(out, state(n, -1), state(0, -1, n), state(0, -1, n, n), state(n, 3, 1, 2))
		if n < 0 {
			out = append(out, state(0, -1, n, 0, 1))
		} else {
			out = append(out, state(0, n), state(0, -1, 0, 1, n))
		}
	}
	return append(out, state(0, math.MinInt64))
}
