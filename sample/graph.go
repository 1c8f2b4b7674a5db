package sample

import (
	"cmp"
	"slices"

	"trustflow/api"
)

// Graph returns a valid graph of a size with at most so many edges; now and then a key of it is gone. pick(n) chooses a number from 0 to n - 1.
func Graph(size, edges int, pick func(n int) int) api.Graph {
	g := api.Graph{Size: size}
	for key := range size {
		if pick(8) == 0 {
			g.Gone = append(g.Gone, key)
		}
	}
	if size == 0 {
		return g
	}
	for range edges {
		e := api.Edge{From: pick(size), To: pick(size), Level: 1 + pick(api.MaxLevel)}
		if e.From != e.To && !slices.Contains(g.Gone, e.From) && !slices.Contains(g.Gone, e.To) {
			g.Edges = append(g.Edges, e)
		}
	}
	slices.SortStableFunc(g.Edges, byKeys)
	g.Edges = slices.CompactFunc(g.Edges, func(a, b api.Edge) bool { return byKeys(a, b) == 0 })
	return g
}

// Edges returns the first ones of all edges that a graph of the greatest size can have, so many, at a level.
func Edges(n, level int) []api.Edge {
	var l []api.Edge
	for i := 0; len(l) < n; i++ {
		if from, to := i/api.MaxKeys, i%api.MaxKeys; from != to {
			l = append(l, api.Edge{From: from, To: to, Level: level})
		}
	}
	return l
}

// Joined returns the graph of a size with edges, each one given by its ends and its level, in any order.
func Joined(size int, edges ...[3]int) api.Graph {
	g := api.Graph{Size: size}
	for _, e := range edges {
		g.Edges = append(g.Edges, api.Edge{From: e[0], To: e[1], Level: e[2]})
	}
	slices.SortFunc(g.Edges, byKeys)
	return g
}

// Line returns the graph of a size with an edge from each key to the next one, at level 1.
func Line(size int) api.Graph {
	g := api.Graph{Size: size}
	for key := 1; key < size; key++ {
		g.Edges = append(g.Edges, api.Edge{From: key - 1, To: key, Level: 1})
	}
	return g
}

// Leave returns g with keys that are gone; its edges stay.
func Leave(g api.Graph, gone ...int) api.Graph {
	g.Gone = gone
	return g
}

// WildGraphs returns graphs that are not valid, each for one reason.
func WildGraphs() map[string]api.Graph {
	a, b, c := api.Edge{From: 0, To: 1, Level: 1}, api.Edge{From: 0, To: 2, Level: 2}, api.Edge{From: 1, To: 0, Level: 3}
	graph := func(l ...api.Edge) api.Graph { return api.Graph{Size: 4, Edges: l, Gone: []int{3}} }
	return map[string]api.Graph{
		"less than no keys":     {Size: -1},
		"too many keys":         {Size: api.MaxKeys + 1},
		"too many edges":        {Size: api.MaxKeys, Edges: Edges(api.MaxEdges+1, 1)},
		"edges that fall":       graph(a, c, b),
		"an edge twice":         graph(a, b, b),
		"an edge at two levels": graph(a, api.Edge{From: 0, To: 1, Level: 2}),
		"an edge from nobody":   graph(api.Edge{From: -1, To: 0, Level: 1}, a),
		"an edge to nobody":     graph(a, api.Edge{From: 2, To: 4, Level: 1}),
		"a key and itself":      graph(a, api.Edge{From: 1, To: 1, Level: 1}),
		"no level":              graph(a, api.Edge{From: 0, To: 2}),
		"too great a level":     graph(a, api.Edge{From: 0, To: 2, Level: api.MaxLevel + 1}),
		"from one who is gone":  graph(a, api.Edge{From: 3, To: 0, Level: 1}),
		"to one who is gone":    graph(a, api.Edge{From: 2, To: 3, Level: 1}),
		"gone keys that fall":   {Size: 4, Edges: []api.Edge{a}, Gone: []int{3, 2}},
		"gone twice":            {Size: 4, Edges: []api.Edge{a}, Gone: []int{3, 3}},
		"nobody is gone":        {Size: 4, Edges: []api.Edge{a}, Gone: []int{-1, 3}},
		"gone, but no key":      {Size: 4, Edges: []api.Edge{a}, Gone: []int{4}},
	}
}

// Keeps calls f with a copy of g, behind whose lists there is room with somebody else's numbers, and reports whether f changes none of this.
func Keeps(g api.Graph, f func(g api.Graph)) bool {
	edges := append(slices.Clone(g.Edges), api.Edge{From: -7, To: -7, Level: -7}, api.Edge{From: -8, To: -8, Level: -8})
	gone := append(slices.Clone(g.Gone), -7, -8)
	edgesBefore, goneBefore := slices.Clone(edges), slices.Clone(gone)
	f(api.Graph{Size: g.Size, Edges: edges[:len(g.Edges)], Gone: gone[:len(g.Gone)]})
	return slices.Equal(edges, edgesBefore) && slices.Equal(gone, goneBefore)
}

// byKeys compares edges as they are ordered in a graph.
func byKeys(a, b api.Edge) int {
	return cmp.Or(cmp.Compare(a.From, b.From), cmp.Compare(a.To, b.To))
}
