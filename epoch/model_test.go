package epoch

import (
	"math"
	"math/rand"
	"slices"
	"testing"

	"trustflow/api"
	"trustflow/sample"
	"trustflow/store"
)

// first takes from a list the statement that stands before all others by the chapter's order.
func first(l []api.Statement) int {
	best := 0
	for i, s := range l {
		b := l[best]
		switch {
		case s.Time != b.Time:
			if s.Time < b.Time {
				best = i
			}
		case s.Author != b.Author:
			if s.Author < b.Author {
				best = i
			}
		case s.Number < b.Number:
			best = i
		}
	}
	return best
}

// modelOrder takes the first one of what is left, until nothing is.
func modelOrder(l []api.Statement) []api.Statement {
	l = slices.Clone(l)
	var out []api.Statement
	for len(l) > 0 {
		i := first(l)
		out = append(out, l[i])
		l = slices.Delete(l, i, i+1)
	}
	return out
}

// modelWindow leaves out what was made too early or too late.
func modelWindow(l []api.Statement, from, to int) []api.Statement {
	return slices.DeleteFunc(slices.Clone(l), func(s api.Statement) bool { return s.Time < from || s.Time > to })
}

// P9.2: all functions, of lists of all kinds and at all times, against their definitions.
func TestAgainstTheDefinitions(t *testing.T) {
	r := rand.New(rand.NewSource(1))
	some := append([]int{2, 3, 4}, far...)
	for range 300 {
		l := anyList(r)
		expectList(t, "the order", l, Order, modelOrder(l))
		expectList(t, "the order twice", Order(l), Order, modelOrder(l))
		for _, to := range some {
			expectUntil(t, l, to, modelWindow(l, math.MinInt, to))
			from := some[r.Intn(len(some))]
			expectWindow(t, l, from, to, modelWindow(l, from, to))
		}
		latest := -1
		if len(l) > 0 {
			latest = modelOrder(l)[len(l)-1].Time
		}
		expectLatest(t, l, latest)
	}
}

// Consequences: of what counts of an author, what was made until a time is the first ones, and as many at least until a later time.
func TestUntilOfWhatCounts(t *testing.T) {
	r := rand.New(rand.NewSource(2))
	parts := 0
	for range 100 {
		s := sample.Part(r.Intn, sample.Tree(9, r.Intn))
		counted := store.Counted(s)
		for author := range api.MaxKeys {
			row := slices.DeleteFunc(slices.Clone(counted), func(s api.Statement) bool { return s.Author != author })
			before := 0
			for time := -1; time < 20; time++ {
				n := len(Until(row, time))
				expectUntil(t, row, time, row[:n])
				if n < before {
					t.Errorf("until %d %d statements count of %s, before that %d", time, n, brief(row), before)
				}
				if 0 < n && n < len(row) {
					parts++
				}
				before = n
			}
			if before != len(row) {
				t.Errorf("of %s only %d statements were made at last", brief(row), before)
			}
		}
	}
	if parts < 100 {
		t.Errorf("only %d rows were there in part", parts)
	}
}

// What was made in a window is what was made until its end without what was made before it, and its order is the same before and after.
func TestWindowsAndUntil(t *testing.T) {
	r := rand.New(rand.NewSource(3))
	for range 200 {
		l := anyList(r)
		from, to := r.Intn(4), r.Intn(5)
		expectWindow(t, l, from, to, slices.DeleteFunc(Until(l, to), func(s api.Statement) bool { return s.Time < from }))
		expectWindow(t, Order(l), from, to, Order(Window(l, from, to)))
		if n := len(Window(l, Latest(l), Latest(l))); len(l) > 0 && n == 0 || len(Until(l, Latest(l))) != len(l) {
			t.Errorf("%d is not the latest time of %s", Latest(l), brief(l))
		}
	}
}
