package graph

import (
	"cmp"
	"math"
	"slices"
	"testing"

	"trustflow/api"
	"trustflow/sample"
	"trustflow/statement"
	"trustflow/store"
)

// far are numbers at the ends of what an int can be, and about some bounds.
var far = []int{math.MinInt, math.MinInt + 1, -1 << 40, -2, -1, 0, 1, api.MaxKeys - 1, api.MaxKeys, api.MaxTime, api.MaxTime + 1, 1 << 40, math.MaxInt - 1, math.MaxInt}

// outside are numbers that are no levels.
var outside = []int{math.MinInt, -1, 0, api.MaxLevel + 1, 64, math.MaxInt}

// edge is an edge from one key to another one at a level.
func edge(from, to, level int) api.Edge { return api.Edge{From: from, To: to, Level: level} }

// graph is the graph of 10 keys, of which 3 and 7 are gone, with some edges.
func graph(l ...api.Edge) api.Graph { return api.Graph{Size: 10, Edges: l, Gone: []int{3, 7}} }

// full is a graph of all keys with so many edges at level 1.
func full(n int) api.Graph { return api.Graph{Size: api.MaxKeys, Edges: sample.Edges(n, 1)} }

// isGraph reports whether two graphs are equal, element by element.
func isGraph(a, b api.Graph) bool {
	edges := slices.EqualFunc(a.Edges, b.Edges, func(x, y api.Edge) bool {
		return x.From == y.From && x.To == y.To && x.Level == y.Level
	})
	return a.Size == b.Size && edges && slices.EqualFunc(a.Gone, b.Gone, func(x, y int) bool { return x == y })
}

// isZero reports whether nothing of a graph is set.
func isZero(g api.Graph) bool { return g.Size == 0 && len(g.Edges) == 0 && len(g.Gone) == 0 }

// sorted is edges by From, then by To, in new memory.
func sorted(l []api.Edge) []api.Edge {
	l = slices.Clone(l)
	slices.SortStableFunc(l, func(a, b api.Edge) int { return cmp.Compare(a.To, b.To) })
	slices.SortStableFunc(l, func(a, b api.Edge) int { return cmp.Compare(a.From, b.From) })
	return l
}

// counted returns what counts of a store with some rows, and asserts that this is all of them.
func counted(t *testing.T, rows ...[]api.Statement) []api.Statement {
	t.Helper()
	s := sample.Store(rows...)
	l := store.Counted(s)
	if !store.Valid(s) || !slices.EqualFunc(l, s.Statements, statement.Same) {
		t.Fatalf("%s does not count", sample.Brief(s.Statements))
	}
	return l
}

// kept calls a function of a graph and asserts that it changes nothing of it.
func kept(t *testing.T, g api.Graph, f func(g api.Graph)) {
	t.Helper()
	if !sample.Keeps(g, f) {
		t.Errorf("%v has been changed", g)
	}
}

// expectCheck asserts what Check says of a graph.
func expectCheck(t *testing.T, name string, g api.Graph, want api.Errno) {
	t.Helper()
	kept(t, g, func(g api.Graph) {
		if got := Check(g); got != want {
			t.Errorf("%s: the error of %v is %d, want %d", name, g, got, want)
		}
	})
}

// expectAt asserts the graph of a list at a time, and that the list stays as it was.
func expectAt(t *testing.T, l []api.Statement, time, level int, want api.Graph) {
	t.Helper()
	before := slices.Clone(l)
	got, err := At(l, time, level)
	if err != api.OK || !isGraph(got, want) || Check(got) != api.OK {
		t.Errorf("at %d the graph of %s at level %d is %v, error %d, want %v", time, sample.Deeds(l), level, got, err, want)
	}
	if !slices.EqualFunc(l, before, statement.Same) {
		t.Errorf("%s has been changed", sample.Deeds(before))
	}
}

// expectNotAt asserts that there is no graph of a list at a time.
func expectNotAt(t *testing.T, l []api.Statement, time, level int, want api.Errno) {
	t.Helper()
	if got, err := At(l, time, level); err != want || !isZero(got) {
		t.Errorf("at %d at level %d the graph of %d statements is %v, error %d, want error %d", time, level, len(l), got, err, want)
	}
}

// expectWith asserts the graph with one more edge, and that without this edge it is what it was.
func expectWith(t *testing.T, g api.Graph, e api.Edge, want api.Graph) {
	t.Helper()
	kept(t, g, func(g api.Graph) {
		got, err := With(g, e)
		if err != api.OK || !isGraph(got, want) || Check(got) != api.OK {
			t.Errorf("%v with %v is %v, error %d, want %v", g, e, got, err, want)
		}
		if back, err := Without(got, e.From, e.To); err != api.OK || !isGraph(back, g) {
			t.Errorf("%v with %v, and without it, is %v, error %d", g, e, back, err)
		}
	})
}

// expectNotWith asserts that an edge cannot be added.
func expectNotWith(t *testing.T, name string, g api.Graph, e api.Edge, want api.Errno) {
	t.Helper()
	kept(t, g, func(g api.Graph) {
		if got, err := With(g, e); err != want || !isZero(got) {
			t.Errorf("%s: %v with %v is %v, error %d, want error %d", name, g, e, got, err, want)
		}
	})
}

// expectWithout asserts the graph without one of its edges, and that with this edge it is what it was.
func expectWithout(t *testing.T, g api.Graph, e api.Edge, want api.Graph) {
	t.Helper()
	kept(t, g, func(g api.Graph) {
		got, err := Without(g, e.From, e.To)
		if err != api.OK || !isGraph(got, want) || Check(got) != api.OK {
			t.Errorf("%v without %v is %v, error %d, want %v", g, e, got, err, want)
		}
		if back, err := With(got, e); err != api.OK || !isGraph(back, g) {
			t.Errorf("%v without %v, and with it, is %v, error %d", g, e, back, err)
		}
	})
}

// expectNotWithout asserts that an edge cannot be taken away.
func expectNotWithout(t *testing.T, name string, g api.Graph, from, to int, want api.Errno) {
	t.Helper()
	kept(t, g, func(g api.Graph) {
		if got, err := Without(g, from, to); err != want || !isZero(got) {
			t.Errorf("%s: %v without %d to %d is %v, error %d, want error %d", name, g, from, to, got, err, want)
		}
	})
}

// expectEnds asserts to which keys edges lead from a key, and from which ones to it.
func expectEnds(t *testing.T, g api.Graph, key int, out, in []int) {
	t.Helper()
	kept(t, g, func(g api.Graph) {
		if got := Out(g, key); !slices.Equal(got, out) {
			t.Errorf("out of %d of %v there are %v, want %v", key, g, got, out)
		}
		if got := In(g, key); !slices.Equal(got, in) {
			t.Errorf("into %d of %v there are %v, want %v", key, g, got, in)
		}
	})
}

// expectLevel asserts what is left of a graph at a level.
func expectLevel(t *testing.T, g api.Graph, level int, want api.Graph) {
	t.Helper()
	kept(t, g, func(g api.Graph) {
		if got := Level(g, level); !isGraph(got, want) || Check(got) != api.OK {
			t.Errorf("of %v at level %d there is %v, want %v", g, level, got, want)
		}
	})
}

// expectSame asserts whether two graphs are equal, both ways.
func expectSame(t *testing.T, name string, a, b api.Graph, want bool) {
	t.Helper()
	kept(t, a, func(a api.Graph) {
		kept(t, b, func(b api.Graph) {
			if Same(a, b) != want || Same(b, a) != want {
				t.Errorf("%s: that %v and %v are the same is %t, the other way %t, want %t", name, a, b, Same(a, b), Same(b, a), want)
			}
		})
	})
}
