package policy

import (
	"slices"
	"strconv"
	"strings"

	"castellan/api"
	"castellan/entry"
	"castellan/syntax"
)

// The attributes that say a state.
const (
	changedAttr = "pwdChanged"
	failureAttr = "pwdFailure"
	lockedAttr  = "pwdLocked"
)

// mostAhead is how many failures of one time may stand ahead of another one.
const mostAhead = 99

// Read answers the state that attributes say.
func Read(attrs []api.Attr) State {
	var fails []int64
	for _, value := range entry.Get(attrs, failureAttr) {
		if t, ok := failure(value); ok {
			fails = append(fails, t)
		}
	}
	slices.Sort(fails)
	return State{Fails: latest(fails), Locked: first(attrs, lockedAttr, unlocked), Changed: first(attrs, changedAttr, 0)}
}

// failure answers the time that a value of a failure has, and whether it is such a value.
func failure(value string) (int64, bool) {
	// Without a point there is nothing behind it, and that is no number.
	text, ahead, _ := strings.Cut(value, ".")
	t, ok := number(text, api.MaxTime)
	if !ok {
		return 0, false
	}
	_, ok = number(ahead, mostAhead)
	return t, ok
}

// first answers the first of an attribute's values that is a time; otherwise, where there is none.
func first(attrs []api.Attr, name string, otherwise int64) int64 {
	for _, value := range entry.Get(attrs, name) {
		if t, ok := number(value, api.MaxTime); ok {
			return t
		}
	}
	return otherwise
}

// number answers the number that a text is, and whether it is one from 0 to most.
func number(text string, most int64) (int64, bool) {
	if _, ok := syntax.Norm(api.Number, text); !ok {
		return 0, false
	}
	n, err := strconv.ParseInt(text, 10, 64)
	if err != nil || n < 0 || most < n {
		return 0, false
	}
	return n, true
}

// Mods answers the modifications by which attributes say a state.
func Mods(s State) []api.Mod {
	var locked []string
	if s.Locked != unlocked {
		locked = []string{digits(s.Locked)}
	}
	return []api.Mod{
		{Op: api.ModReplace, Name: changedAttr, Values: []string{digits(s.Changed)}},
		{Op: api.ModReplace, Name: failureAttr, Values: failures(s.Fails)},
		{Op: api.ModReplace, Name: lockedAttr, Values: locked},
	}
}

// failures answers a value for each failure. How many of its time are ahead of it keeps one from being another's value.
func failures(fails []int64) []string {
	var out []string
	ahead := map[int64]int64{}
	for _, t := range fails {
		out = append(out, digits(t)+"."+digits(ahead[t]))
		ahead[t]++
	}
	return out
}

// digits answers a number in decimal digits.
func digits(n int64) string { return strconv.FormatInt(n, 10) }
