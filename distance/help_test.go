package distance

import (
	"math"
	"slices"
	"testing"

	"trustflow/api"
	"trustflow/graph"
	"trustflow/sample"
)

// far are numbers at the ends of what an int can be, and about some bounds.
var far = []int{math.MinInt, math.MinInt + 1, -1 << 40, -2, -1, 0, 1, api.MaxKeys - 1, api.MaxKeys, api.MaxEdges, 1 << 40, math.MaxInt - 1, math.MaxInt}

// steps is the graph of so many keys with edges between these pairs of them, in any order; the levels go round.
func steps(size int, pairs ...[2]int) api.Graph {
	g := api.Graph{Size: size}
	slices.SortFunc(pairs, func(a, b [2]int) int { return slices.Compare(a[:], b[:]) })
	for i, p := range pairs {
		g.Edges = append(g.Edges, api.Edge{From: p[0], To: p[1], Level: 1 + i%api.MaxLevel})
	}
	return g
}

// none is so many times -1.
func none(n int) []int { return slices.Repeat([]int{-1}, n) }

// valid asserts that a graph is one that the functions are specified for.
func valid(t *testing.T, g api.Graph) {
	t.Helper()
	if graph.Check(g) != api.OK {
		t.Fatalf("%v is not valid", g)
	}
}

// kept calls a function of a graph and seeds, behind which there is room with somebody else's numbers, and asserts that it changes none of this.
func kept(t *testing.T, g api.Graph, seeds []int, f func(g api.Graph, seeds []int)) {
	t.Helper()
	keepsSeeds := false
	if !sample.Keeps(g, func(g api.Graph) { keepsSeeds = sample.KeepsNumbers(seeds, func(seeds []int) { f(g, seeds) }) }) {
		t.Errorf("%v has been changed", g)
	}
	if !keepsSeeds {
		t.Errorf("the seeds %v have been changed", seeds)
	}
}

// expect asserts the distances of all keys of a graph, and the order of those that are reached.
func expect(t *testing.T, g api.Graph, seeds, distances, order []int) {
	t.Helper()
	valid(t, g)
	kept(t, g, seeds, func(g api.Graph, seeds []int) {
		if got := All(g, seeds); !slices.Equal(got, distances) {
			t.Errorf("from %v the distances of %v are %v, want %v", seeds, g, got, distances)
		}
		if got := Order(g, seeds); !slices.Equal(got, order) {
			t.Errorf("from %v the order of %v is %v, want %v", seeds, g, got, order)
		}
	})
}

// expectWay asserts the way to a key.
func expectWay(t *testing.T, g api.Graph, seeds []int, key int, want ...int) {
	t.Helper()
	valid(t, g)
	kept(t, g, seeds, func(g api.Graph, seeds []int) {
		if got, ok := Way(g, seeds, key); !ok || !slices.Equal(got, want) {
			t.Errorf("from %v the way to %d of %v is %v, %t, want %v", seeds, key, g, got, ok, want)
		}
	})
}

// expectNoWay asserts that there is no way to a key.
func expectNoWay(t *testing.T, g api.Graph, seeds []int, key int) {
	t.Helper()
	valid(t, g)
	kept(t, g, seeds, func(g api.Graph, seeds []int) {
		if got, ok := Way(g, seeds, key); ok || len(got) != 0 {
			t.Errorf("from %v the way to %d of %v is %v, %t, want none", seeds, key, g, got, ok)
		}
	})
}
