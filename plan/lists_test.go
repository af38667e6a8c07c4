package plan_test

import (
	"fmt"
	"math"
	"math/rand"
	"slices"
	"testing"

	"castellan/plan"
)

// P20.1: Meet and Join of lists in any order.
func TestLists(t *testing.T) {
	least, most := math.MinInt, math.MaxInt
	for _, c := range []struct {
		lists      [][]int
		meet, join string
	}{
		{nil, "", ""},
		{[][]int{{}}, "", ""},
		{[][]int{nil, nil}, "", ""},
		{[][]int{{1}}, "1", "1"},
		{[][]int{{3, 1, 1, 2, 3}}, "1 2 3", "1 2 3"},
		{[][]int{{3, 1, 1}, {1, 2, 3}}, "1 3", "1 2 3"},
		{[][]int{{3}, {1, 3}}, "3", "1 3"},
		{[][]int{{1, 3}, {3}}, "3", "1 3"},
		{[][]int{{1}, {2}}, "", "1 2"},
		{[][]int{{1, 1}, {2}}, "", "1 2"},
		{[][]int{{1, 2}, {}}, "", "1 2"},
		{[][]int{{}, {1, 2}}, "", "1 2"},
		{[][]int{nil, {1}, {1}}, "", "1"},
		{[][]int{{2, 1}, {1, 2}, {2, 2, 2}}, "2", "1 2"},
		{[][]int{{1, 2}, {2, 3}, {3, 1}}, "", "1 2 3"},
		{[][]int{{1, 2}, {2, 3}, {2, 2}}, "2", "1 2 3"},
		{[][]int{{2, 2}, {1}, {2}}, "", "1 2"},
		{[][]int{{0, -1, 5}, {5, 0, -1}}, "-1 0 5", "-1 0 5"},
		{[][]int{{most, 0, least}, {least, most}}, fmt.Sprint(least, most), fmt.Sprint(least, 0, most)},
	} {
		is(t, fmt.Sprint("Meet of ", c.lists), ids(plan.Meet(c.lists...)), c.meet)
		is(t, fmt.Sprint("Join of ", c.lists), ids(plan.Join(c.lists...)), c.join)
	}
}

// P20.1: lists by chance: each ID by itself.
func TestSomeLists(t *testing.T) {
	r := rand.New(rand.NewSource(201))
	met := 0
	for range 3000 {
		lists := make([][]int, r.Intn(5))
		for i := range lists {
			for range r.Intn(12) {
				lists[i] = append(lists[i], r.Intn(9)-4)
			}
		}
		var meet, join []int
		for id := -9; id < 9; id++ {
			in := 0
			for _, list := range lists {
				if slices.Contains(list, id) {
					in++
				}
			}
			if in > 0 {
				join = append(join, id)
			}
			if in > 0 && in == len(lists) {
				meet = append(meet, id)
			}
		}
		is(t, fmt.Sprint("Meet of ", lists), ids(plan.Meet(lists...)), ids(meet))
		is(t, fmt.Sprint("Join of ", lists), ids(plan.Join(lists...)), ids(join))
		if len(meet) > 0 && len(lists) > 1 {
			met++
		}
	}
	if met < 500 {
		t.Errorf("too few that met: %d", met)
	}
}

// P20.1: many lists, and long ones.
func TestManyLists(t *testing.T) {
	var lists [][]int
	for i := range 1000 {
		lists = append(lists, []int{i, 5000, 7, i})
	}
	is(t, "Meet", ids(plan.Meet(lists...)), "7 5000")
	is(t, "Join", len(plan.Join(lists...)), 1001)
	long := rand.New(rand.NewSource(1)).Perm(1 << 18)
	is(t, "Meet of long ones", slices.IsSorted(plan.Meet(long, long)), true)
	is(t, "how long", len(plan.Meet(long, long[1:], long)), 1<<18-1)
	is(t, "Join of long ones", slices.IsSorted(plan.Join(long, long)), true)
	is(t, "how long that is", len(plan.Join(long[:9], long[1:], long)), 1<<18)
}

// Memory: lists stay as they are, and what is answered is other memory.
func TestListsMemory(t *testing.T) {
	for what, call := range map[string]func(...[]int) []int{"Meet": plan.Meet, "Join": plan.Join} {
		for n := 1; n < 4; n++ {
			var lists [][]int
			for range n {
				lists = append(lists, []int{3, 1, 2, 9, 9}[:3])
			}
			before := fmt.Sprint(lists, lists[0][:5])
			answer := call(lists...)
			is(t, what, ids(answer), "1 2 3")
			answer = answer[:cap(answer)]
			for i := range answer {
				answer[i] = -7
			}
			is(t, what+": the lists", fmt.Sprint(lists, lists[0][:5]), before)
		}
	}
	rising := []int{1, 2, 3}
	plan.Join(rising)[0], plan.Meet(rising)[0] = 8, 9
	is(t, "a list that rises", ids(rising), "1 2 3")
}
