package graph

import (
	"math/rand"
	"slices"
	"testing"

	"trustflow/api"
	"trustflow/sample"
)

// P11.2: an edge comes to its place: before, between and behind the others, and alone; and goes from there.
func TestSteps(t *testing.T) {
	a, b, c, d := edge(0, 1, 2), edge(1, 0, 3), edge(1, 9, 1), edge(9, 8, 2)
	all := []api.Edge{a, b, c, d}
	for i, e := range all {
		rest := graph(slices.Delete(slices.Clone(all), i, i+1)...)
		expectWith(t, rest, e, graph(all...))
		expectWithout(t, graph(all...), e, rest)
	}
	expectWith(t, graph(), c, graph(c))
	expectWithout(t, graph(c), c, graph())
	for _, e := range []api.Edge{edge(0, 9, 1), edge(0, 2, 1), edge(1, 2, 3), edge(1, 8, 1), edge(2, 0, 1), edge(8, 9, 1), edge(9, 0, 1), edge(0, 4, 2)} {
		expectWith(t, graph(all...), e, graph(sorted(append([]api.Edge{e}, all...))...))
	}
}

// P11.2: the edge back is another one; both ends can have any others, and the greatest and the least keys are keys.
func TestStepsOfEnds(t *testing.T) {
	expectWith(t, graph(edge(0, 1, 1)), edge(1, 0, 1), graph(edge(0, 1, 1), edge(1, 0, 1)))
	expectWithout(t, graph(edge(0, 1, 1), edge(1, 0, 2)), edge(1, 0, 2), graph(edge(0, 1, 1)))
	expectWithout(t, graph(edge(0, 1, 1), edge(1, 0, 2)), edge(0, 1, 1), graph(edge(1, 0, 2)))
	for _, e := range []api.Edge{edge(0, 63, 1), edge(63, 0, 3), edge(62, 63, 2)} {
		expectWith(t, api.Graph{Size: api.MaxKeys}, e, api.Graph{Size: api.MaxKeys, Edges: []api.Edge{e}})
	}
	expectWith(t, api.Graph{Size: 2}, edge(1, 0, 1), api.Graph{Size: 2, Edges: []api.Edge{edge(1, 0, 1)}})
	for level := 1; level <= api.MaxLevel; level++ {
		expectWith(t, graph(), edge(8, 9, level), graph(edge(8, 9, level)))
	}
}

// P11.2: keys that there are not, a key and itself, and keys that are gone.
func TestWithKeys(t *testing.T) {
	g := graph(edge(0, 1, 2), edge(1, 0, 3))
	for _, pair := range [][2]int{{0, 0}, {5, 5}, {9, 9}, {3, 3}, {0, 3}, {3, 0}, {0, 7}, {7, 0}, {3, 7}, {9, 10}, {10, 9}, {0, -1}, {-1, 0}, {10, 10}, {-1, -1}} {
		expectNotWith(t, "keys", g, edge(pair[0], pair[1], 1), api.ErrKey)
	}
	for _, n := range far {
		if n < 0 || n >= 10 {
			expectNotWith(t, "far", g, edge(0, n, 1), api.ErrKey)
			expectNotWith(t, "far", g, edge(n, 0, 1), api.ErrKey)
		}
	}
	expectNotWith(t, "no keys", api.Graph{}, edge(0, 1, 1), api.ErrKey)
	expectNotWith(t, "one key", api.Graph{Size: 1}, edge(0, 1, 1), api.ErrKey)
	expectNotWith(t, "all keys", api.Graph{Size: api.MaxKeys}, edge(0, api.MaxKeys, 1), api.ErrKey)
}

// P11.2: levels that there are not, and an edge that is there already, at whichever level.
func TestWithLevelsAndEdges(t *testing.T) {
	g := graph(edge(0, 1, 2), edge(1, 0, 3), edge(1, 2, 1))
	for _, level := range outside {
		expectNotWith(t, "a level", g, edge(0, 2, level), api.ErrRange)
	}
	for level := 1; level <= api.MaxLevel; level++ {
		for _, e := range g.Edges {
			expectNotWith(t, "an edge", g, edge(e.From, e.To, level), api.ErrEdge)
		}
	}
}

// P11.2: as many edges as a graph has, and no more; there is room again if one goes.
func TestWithLimit(t *testing.T) {
	last := sample.Edges(api.MaxEdges, 1)[api.MaxEdges-1]
	e := edge(63, 0, 1)
	expectWith(t, full(api.MaxEdges-1), last, full(api.MaxEdges))
	expectNotWith(t, "full", full(api.MaxEdges), e, api.ErrLimit)
	g, err := Without(full(api.MaxEdges), last.From, last.To)
	if err != api.OK {
		t.Fatalf("the error is %d", err)
	}
	expectWith(t, g, e, api.Graph{Size: api.MaxKeys, Edges: append(sample.Edges(api.MaxEdges-1, 1), e)})
}

// P11.2: of several errors the one that is named first.
func TestWithErrorsInOrder(t *testing.T) {
	wild := sample.WildGraphs()["an edge twice"]
	crowded := full(api.MaxEdges)
	for _, c := range []struct {
		name string
		g    api.Graph
		e    api.Edge
		want api.Errno
	}{
		{"graph before key", wild, edge(0, 0, 1), api.ErrGraph},
		{"graph before range", wild, edge(1, 2, 0), api.ErrGraph},
		{"graph before edge", wild, edge(0, 1, 1), api.ErrGraph},
		{"graph before limit", full(api.MaxEdges + 1), edge(63, 0, 1), api.ErrGraph},
		{"key before range", crowded, edge(5, 5, 0), api.ErrKey},
		{"gone before range", graph(), edge(3, 5, 4), api.ErrKey},
		{"key before limit", crowded, edge(64, 0, 1), api.ErrKey},
		{"range before edge", crowded, edge(0, 1, 4), api.ErrRange},
		{"range before limit", crowded, edge(63, 0, 4), api.ErrRange},
		{"edge before limit", crowded, edge(0, 1, 1), api.ErrEdge},
	} {
		expectNotWith(t, c.name, c.g, c.e, c.want)
	}
}

// P11.2: an edge that is not there cannot go: the other way round, of other keys, and of keys that are none or gone.
func TestWithoutEdges(t *testing.T) {
	g := graph(edge(0, 1, 2), edge(1, 2, 1), edge(2, 0, 1), edge(2, 1, 1))
	for _, pair := range [][2]int{{1, 0}, {0, 2}, {0, 0}, {1, 1}, {4, 5}, {0, 3}, {3, 7}, {9, 10}, {2, 2}, {0, 9}, {9, 0}} {
		expectNotWithout(t, "pairs", g, pair[0], pair[1], api.ErrEdge)
	}
	for _, n := range far {
		if n < 0 || n > 2 {
			expectNotWithout(t, "far", g, 0, n, api.ErrEdge)
			expectNotWithout(t, "far", g, n, 0, api.ErrEdge)
		}
		expectNotWithout(t, "no edges", api.Graph{}, n, 1, api.ErrEdge)
	}
	for _, e := range g.Edges {
		left, err := Without(g, e.From, e.To)
		if err != api.OK {
			t.Fatalf("the error is %d", err)
		}
		expectNotWithout(t, "twice", left, e.From, e.To, api.ErrEdge)
	}
}

// P11.2: with a graph that is not valid nothing is done, whether the edge is there or not.
func TestStepsOfWildGraphs(t *testing.T) {
	for name, g := range sample.WildGraphs() {
		expectNotWith(t, name, g, edge(1, 2, 1), api.ErrGraph)
		expectNotWith(t, name, g, edge(0, 0, 0), api.ErrGraph)
		expectNotWithout(t, name, g, 0, 1, api.ErrGraph)
		expectNotWithout(t, name, g, 63, 62, api.ErrGraph)
	}
}

// modelWith is which error there is with an edge, each one looked for by itself.
func modelWith(g api.Graph, e api.Edge) api.Errno {
	isKey := func(key int) bool { return key >= 0 && key < g.Size && !slices.Contains(g.Gone, key) }
	switch {
	case !isKey(e.From) || !isKey(e.To) || e.From == e.To:
		return api.ErrKey
	case e.Level < 1 || e.Level > 3:
		return api.ErrRange
	case slices.ContainsFunc(g.Edges, func(x api.Edge) bool { return x.From == e.From && x.To == e.To }):
		return api.ErrEdge
	}
	return api.OK
}

// P11.2 and the consequence: With and Without of all pairs of keys of random graphs, against their definitions; they undo each other.
func TestStepsAgainstTheDefinitions(t *testing.T) {
	r := rand.New(rand.NewSource(1))
	for range 150 {
		g := sample.Graph(r.Intn(8), r.Intn(25), r.Intn)
		for from := -1; from <= g.Size; from++ {
			for to := -1; to <= g.Size; to++ {
				e := edge(from, to, r.Intn(api.MaxLevel+2))
				if err := modelWith(g, e); err != api.OK {
					expectNotWith(t, "pairs", g, e, err)
				} else {
					expectWith(t, g, e, api.Graph{Size: g.Size, Edges: sorted(append([]api.Edge{e}, g.Edges...)), Gone: g.Gone})
				}
				i := slices.IndexFunc(g.Edges, func(x api.Edge) bool { return x.From == from && x.To == to })
				if i < 0 {
					expectNotWithout(t, "pairs", g, from, to, api.ErrEdge)
				} else {
					expectWithout(t, g, g.Edges[i], api.Graph{Size: g.Size, Edges: slices.Delete(slices.Clone(g.Edges), i, i+1), Gone: g.Gone})
				}
			}
		}
	}
}

// A graph is built edge after edge, in any order, and taken apart again.
func TestManySteps(t *testing.T) {
	r := rand.New(rand.NewSource(2))
	for range 10 {
		want := sample.Graph(20, 100, r.Intn)
		g := api.Graph{Size: 20, Gone: want.Gone}
		for _, apart := range []bool{false, true} {
			for _, i := range r.Perm(len(want.Edges)) {
				e, err := want.Edges[i], api.OK
				if apart {
					g, err = Without(g, e.From, e.To)
				} else {
					g, err = With(g, e)
				}
				if err != api.OK {
					t.Fatalf("the error is %d", err)
				}
			}
			if !apart && !isGraph(g, want) || apart && !isGraph(g, api.Graph{Size: 20, Gone: want.Gone}) {
				t.Errorf("the graph is %v", g)
			}
		}
	}
}
