package capacity

import (
	"math"
	"slices"
	"testing"

	"trustflow/api"
	"trustflow/sample"
)

// far are numbers at the ends of what an int can be, and about some bounds.
var far = []int{math.MinInt, math.MinInt + 1, -1 << 40, -2, -1, 0, 1, api.MaxLevel, api.MaxTable, api.MaxKeys - 1, api.MaxKeys, api.MaxCapacity, 1 << 40, math.MaxInt - 1, math.MaxInt}

// policy is a policy of level 1 with a table and some seeds.
func policy(table []int, seeds ...int) api.Policy {
	return api.Policy{Seeds: seeds, Table: table, Level: 1}
}

// at is p at another level.
func at(p api.Policy, level int) api.Policy {
	p.Level = level
	return p
}

// kept calls a function of a graph, a policy and keys, and asserts that it changes none of these.
func kept(t *testing.T, g api.Graph, p api.Policy, keys []int, f func(g api.Graph, p api.Policy, keys []int)) {
	t.Helper()
	if !sample.KeepsAll(g, p, keys, f) {
		t.Errorf("%v, %v or %v has been changed", g, p, keys)
	}
}

// expectCheck asserts what Check says of a graph and a policy.
func expectCheck(t *testing.T, name string, g api.Graph, p api.Policy, want api.Errno) {
	t.Helper()
	kept(t, g, p, nil, func(g api.Graph, p api.Policy, _ []int) {
		if got := Check(g, p); got != want {
			t.Errorf("%s: the error of %v with %v is %d, want %d", name, g, p, got, want)
		}
	})
}

// expectOf asserts the capacity of a distance.
func expectOf(t *testing.T, p api.Policy, distance, want int) {
	t.Helper()
	kept(t, api.Graph{}, p, nil, func(_ api.Graph, p api.Policy, _ []int) {
		if got := Of(p, distance); got != want {
			t.Errorf("the capacity at %d by %v is %d, want %d", distance, p, got, want)
		}
	})
}

// expectAll asserts the capacities of all keys of a graph, of which the functions are specified with this policy.
func expectAll(t *testing.T, g api.Graph, p api.Policy, want ...int) {
	t.Helper()
	expectCheck(t, "capacities", g, p, api.OK)
	kept(t, g, p, nil, func(g api.Graph, p api.Policy, _ []int) {
		if got := All(g, p); !slices.Equal(got, want) {
			t.Errorf("the capacities of %v with %v are %v, want %v", g, p, got, want)
		}
	})
}

// expectBound asserts how many of some keys can be accepted at most, in whatever order these are, and also if they are there several times and others are none.
func expectBound(t *testing.T, g api.Graph, p api.Policy, want int, keys ...int) {
	t.Helper()
	expectCheck(t, "bound", g, p, api.OK)
	back := slices.Clone(keys)
	slices.Reverse(back)
	for _, l := range [][]int{keys, back, slices.Concat(keys, keys), slices.Concat([]int{-1, g.Size}, back, keys, far[:5], []int{math.MaxInt})} {
		kept(t, g, p, l, func(g api.Graph, p api.Policy, l []int) {
			if got := Bound(g, p, l); got != want {
				t.Errorf("of %v in %v with %v there can be %d, want %d", l, g, p, got, want)
			}
		})
	}
}
