package syntax_test

import (
	"fmt"
	"slices"
	"strings"
	"testing"

	"castellan/api"
	"castellan/syntax"
)

// order is what Order answers as one number: 9, where nothing can be said.
func order(syn int, a, b string) int {
	n, ok := syntax.Order(syn, a, b)
	if !ok && n == 0 {
		return 9
	}
	if !ok {
		return 100 + n
	}
	return n
}

// samples are values of all sorts, in and out of form.
func samples() []string {
	return []string{"", " ", "a", "A", " a ", "ab", "a b", "a  B", "B", "b", "\x00", "\x7f", "é", "É", "z", "\U00010000", "\uffff", "\xff", "\x80", "0", "-0", "00", "1", "-1", "9", "10", "-9", "-10", "100", "+1",
		"9223372036854775807", "9223372036854775806", "-9223372036854775808", "-9223372036854775807", "9223372036854775808", "TRUE", "FALSE", "true", "cn=a", "CN=A", "cn=b", "cn",
		"20240229235959Z", "20240301000000Z", "20230229235959Z", "00000101000000Z", "99991231235959Z", "19991231235959Z", strings.Repeat("a", 4096), strings.Repeat("a", 4097), strings.Repeat(" ", 4096), strings.Repeat("a", 4095) + "b"}
}

// P12.2: Order, as it is said.
func TestOrder(t *testing.T) {
	for _, c := range []struct {
		syn  int
		a, b string
		want int
	}{
		{api.Number, "10", "9", 1},
		{api.Number, "9", "10", -1},
		{api.Number, "-10", "-9", -1},
		{api.Number, "-1", "0", -1},
		{api.Number, "0", "0", 0},
		{api.Number, "-9223372036854775808", "9223372036854775807", -1},
		{api.Number, "9223372036854775807", "-9223372036854775808", 1},
		{api.Number, "9223372036854775807", "9223372036854775806", 1},
		{api.Number, "07", "7", 9},
		{api.Number, "7", "07", 9},
		{api.Number, "7", "9223372036854775808", 9},
		{api.Text, "10", "9", -1},
		{api.Text, "A", "a", 0},
		{api.Text, " a  b ", "A B", 0},
		{api.Text, "B", "a", 1},
		{api.Text, "a", "ab", -1},
		{api.Text, "z", "é", -1},
		{api.Text, "é", "É", 1},
		{api.Text, "\uffff", "\U00010000", -1},
		{api.Text, " ", "a", -1},
		{api.Text, "", "a", 9},
		{api.Text, "a", "\xff", 9},
		{api.Text, "a", strings.Repeat("a", 4097), 9},
		{api.Exact, "A", "a", -1},
		{api.Exact, "B", "a", -1},
		{api.Exact, " a", "a", -1},
		{api.Exact, "a", "", 9},
		{api.Ascii, "", "", 0},
		{api.Ascii, "", " ", 0},
		{api.Ascii, "A", "b", -1},
		{api.Ascii, "a", "é", 9},
		{api.Time, "20240229235959Z", "20240301000000Z", -1},
		{api.Time, "20240301000000Z", "20240229235959Z", 1},
		{api.Time, "20240301000000Z", "20240301000000Z", 0},
		{api.Time, "20240301000000Z", "20230229000000Z", 9},
		{api.Truth, "TRUE", "FALSE", 9},
		{api.Truth, "TRUE", "TRUE", 9},
		{api.Name, "cn=a", "cn=b", 9},
		{api.Name, "", "", 9},
		{api.Octets, "a", "b", 9},
		{api.Octets, "", "", 9},
		{0, "a", "a", 9},
		{9, "a", "b", 9},
	} {
		is(t, fmt.Sprintf("Order(%d, %q, %q)", c.syn, c.a, c.b), order(c.syn, c.a, c.b), c.want)
	}
}

// plainOrder is Order's words said in another way.
func plainOrder(syn int, a, b string) int {
	first, firstOK := plain(syn, a)
	second, secondOK := plain(syn, b)
	switch {
	case !firstOK || !secondOK || !slices.Contains([]int{1, 2, 3, 4, 8}, syn):
		return 9
	case syn == 4:
		return value(first).Cmp(value(second))
	case first == second:
		return 0
	case slices.Compare([]byte(first), []byte(second)) < 0:
		return -1
	}
	return 1
}

// P12.2, P12.4: Order of all pairs is as said in another way; one is ahead, or their normal forms are the same; turned
// round it is the other way about.
func TestOrderPairs(t *testing.T) {
	for _, syn := range append(every, strange...) {
		for _, a := range samples() {
			for _, b := range samples() {
				got := order(syn, a, b)
				is(t, fmt.Sprintf("Order(%d, %.20q, %.20q)", syn, a, b), got, plainOrder(syn, a, b))
				if got == 9 {
					continue
				}
				is(t, "turned round", order(syn, b, a), -got)
				is(t, "the same normal form", norm(syn, a) == norm(syn, b), got == 0)
			}
		}
	}
}

// P12.4: who is ahead of one that is ahead of a third is ahead of that.
func TestOrderThree(t *testing.T) {
	for _, syn := range every {
		ahead := map[[2]int]bool{}
		list := samples()
		for i := range list {
			for j := range list {
				ahead[[2]int{i, j}] = order(syn, list[i], list[j]) == -1
			}
		}
		for i := range list {
			for j := range list {
				for k := range list {
					if ahead[[2]int{i, j}] && ahead[[2]int{j, k}] && !ahead[[2]int{i, k}] {
						t.Errorf("of syntax %d %q is ahead of %q, that of %q", syn, list[i], list[j], list[k])
					}
				}
			}
		}
	}
}
