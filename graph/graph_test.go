package graph

import (
	"math/rand"
	"slices"
	"testing"

	"trustflow/api"
	"trustflow/sample"
)

// P11.1: what is valid, each condition at its bound.
func TestValid(t *testing.T) {
	for name, g := range map[string]api.Graph{
		"the zero graph":             {},
		"empty lists":                {Edges: []api.Edge{}, Gone: []int{}},
		"one key":                    {Size: 1},
		"one key, gone":              {Size: 1, Gone: []int{0}},
		"all keys":                   {Size: api.MaxKeys},
		"all keys, the last one":     {Size: api.MaxKeys, Edges: []api.Edge{edge(0, 63, 1), edge(63, 0, 1), edge(63, 62, 1)}},
		"all keys, all gone":         {Size: api.MaxKeys, Gone: sample.Numbers(api.MaxKeys)},
		"the greatest number":        full(api.MaxEdges),
		"all levels":                 graph(edge(0, 1, 1), edge(0, 2, 2), edge(0, 4, 3)),
		"there and back":             graph(edge(0, 1, 1), edge(1, 0, 1)),
		"the last keys":              graph(edge(8, 9, 1), edge(9, 8, 1)),
		"To falls where From rises":  graph(edge(0, 9, 1), edge(1, 0, 1)),
		"levels that fall":           graph(edge(0, 1, 3), edge(0, 2, 1)),
		"gone at both ends":          {Size: 3, Edges: nil, Gone: []int{0, 2}},
		"edges about those who left": graph(edge(2, 4, 1), edge(4, 2, 1), edge(6, 8, 1)),
	} {
		expectCheck(t, name, g, api.OK)
	}
}

// P11.1: what is not valid, each condition just past its bound.
func TestNotValid(t *testing.T) {
	for name, g := range sample.WildGraphs() {
		expectCheck(t, name, g, api.ErrGraph)
	}
	for name, g := range map[string]api.Graph{
		"many edges too many":            full(2 * api.MaxEdges),
		"To falls":                       graph(edge(0, 2, 1), edge(0, 1, 1)),
		"From falls where To rises":      graph(edge(1, 0, 1), edge(0, 9, 1)),
		"only the last edges fall":       graph(edge(0, 1, 1), edge(0, 2, 1), edge(1, 4, 1), edge(1, 2, 1)),
		"only the last edge is twice":    graph(edge(0, 1, 1), edge(0, 2, 1), edge(0, 2, 1)),
		"an edge twice, the level rises": graph(edge(0, 2, 1), edge(0, 2, 2)),
		"an edge twice, the level falls": graph(edge(0, 2, 2), edge(0, 2, 1)),
		"from the first key too many":    graph(edge(0, 1, 1), edge(10, 1, 1)),
		"to the first key too many":      graph(edge(0, 10, 1), edge(1, 0, 1)),
		"to the key -1":                  graph(edge(0, -1, 1), edge(0, 1, 1)),
		"the first key and itself":       graph(edge(0, 0, 1)),
		"the last key and itself":        graph(edge(9, 9, 1)),
		"from the other one who is gone": graph(edge(7, 0, 1)),
		"to the other one who is gone":   graph(edge(0, 7, 1)),
		"gone, the first key too many":   {Size: 4, Gone: []int{1, 4}},
		"gone, the last ones twice":      {Size: 4, Gone: []int{0, 1, 1}},
		"gone, the last ones fall":       {Size: 4, Gone: []int{0, 2, 1}},
		"edges of no keys":               {Edges: []api.Edge{edge(0, 1, 1)}},
		"gone of no keys":                {Gone: []int{0}},
		"an edge of one key":             {Size: 1, Edges: []api.Edge{edge(0, 1, 1)}},
	} {
		expectCheck(t, name, g, api.ErrGraph)
	}
}

// P11.1: numbers of all kinds as the size, as ends, as levels and as keys that are gone.
func TestCheckFar(t *testing.T) {
	for _, n := range far {
		isKey, isSize := api.ErrGraph, api.ErrGraph
		if 0 <= n && n < api.MaxKeys {
			isKey = api.OK
		}
		if 0 <= n && n <= api.MaxKeys {
			isSize = api.OK
		}
		expectCheck(t, "size", api.Graph{Size: n}, isSize)
		expectCheck(t, "from", api.Graph{Size: api.MaxKeys, Edges: []api.Edge{edge(n, 5, 1)}}, isKey)
		expectCheck(t, "to", api.Graph{Size: api.MaxKeys, Edges: []api.Edge{edge(5, n, 1)}}, isKey)
		expectCheck(t, "gone", api.Graph{Size: api.MaxKeys, Gone: []int{n}}, isKey)
	}
	for _, level := range outside {
		expectCheck(t, "level", graph(edge(0, 1, level)), api.ErrGraph)
	}
}

// P11.3: out of a key and into it, in the chapter's example, of several edges, and of keys that are none or gone.
func TestEnds(t *testing.T) {
	g := api.Graph{Size: 3, Edges: []api.Edge{edge(0, 1, 1), edge(1, 2, 1)}}
	expectEnds(t, g, 0, []int{1}, nil)
	expectEnds(t, g, 1, []int{2}, []int{0})
	expectEnds(t, g, 2, nil, []int{1})
	g = graph(edge(0, 2, 3), edge(0, 9, 1), edge(1, 2, 1), edge(2, 0, 1), edge(2, 4, 2), edge(9, 0, 1), edge(9, 2, 2))
	expectEnds(t, g, 0, []int{2, 9}, []int{2, 9})
	expectEnds(t, g, 1, []int{2}, nil)
	expectEnds(t, g, 2, []int{0, 4}, []int{0, 1, 9})
	expectEnds(t, g, 4, nil, []int{2})
	expectEnds(t, g, 9, []int{0, 2}, []int{0})
	for _, key := range []int{3, 5, 7, 10, 63, 64, -1} {
		expectEnds(t, g, key, nil, nil)
	}
	for _, key := range far {
		if key > 1 || key < 0 {
			expectEnds(t, g, key, nil, nil)
		}
		expectEnds(t, api.Graph{}, key, nil, nil)
	}
	expectEnds(t, full(api.MaxEdges), 1, append([]int{0}, sample.Numbers(api.MaxKeys)[2:]...), []int{0, 2, 3, 4, 5, 6, 7})
}

// P11.3: the edges of a level and of those above it are left, and the size and the keys that are gone.
func TestLevel(t *testing.T) {
	a, b, c, d := edge(0, 1, 2), edge(0, 2, 1), edge(1, 0, 3), edge(9, 8, 2)
	g := graph(a, b, c, d)
	for level, want := range map[int]api.Graph{-1: g, 0: g, 1: g, 2: graph(a, c, d), 3: graph(c), 4: graph(), 5: graph()} {
		expectLevel(t, g, level, want)
	}
	expectLevel(t, graph(b), 2, graph())
	for _, level := range far {
		want := graph()
		if level <= 1 {
			want = g
		}
		expectLevel(t, g, level, want)
		expectLevel(t, api.Graph{}, level, api.Graph{})
	}
	expectLevel(t, full(api.MaxEdges), 1, full(api.MaxEdges))
	expectLevel(t, full(api.MaxEdges), 2, api.Graph{Size: api.MaxKeys})
}

// P11.3: each number counts, and the order and how many there are; empty and nil are the same; also of graphs that are not valid.
func TestSame(t *testing.T) {
	a, b := edge(0, 1, 2), edge(4, 2, 1)
	g := graph(a, b)
	expectSame(t, "itself", g, g, true)
	expectSame(t, "in other memory", g, graph(edge(0, 1, 2), edge(4, 2, 1)), true)
	expectSame(t, "nothing", api.Graph{}, api.Graph{Edges: []api.Edge{}, Gone: []int{}}, true)
	for name, other := range map[string]api.Graph{
		"the size":        {Size: 11, Edges: g.Edges, Gone: g.Gone},
		"from":            graph(edge(1, 1, 2), b),
		"to":              graph(edge(0, 2, 2), b),
		"the level":       graph(a, edge(4, 2, 3)),
		"the direction":   graph(edge(1, 0, 2), b),
		"one less":        graph(a),
		"another one":     graph(b),
		"one more":        graph(a, b, edge(5, 0, 1)),
		"no edges":        graph(),
		"the order":       graph(b, a),
		"a gone key":      {Size: 10, Edges: g.Edges, Gone: []int{3, 8}},
		"a gone key less": {Size: 10, Edges: g.Edges, Gone: []int{3}},
		"a gone key more": {Size: 10, Edges: g.Edges, Gone: []int{3, 7, 8}},
		"nobody is gone":  {Size: 10, Edges: g.Edges},
		"gone in order":   {Size: 10, Edges: g.Edges, Gone: []int{7, 3}},
		"nothing":         {},
	} {
		expectSame(t, name, g, other, false)
		expectSame(t, name, other, other, true)
	}
	wild := sample.WildGraphs()
	for name, g := range wild {
		for other, h := range wild {
			expectSame(t, name+" and "+other, g, h, name == other)
		}
	}
}

// modelValid is what the chapter calls valid, by sets.
func modelValid(g api.Graph) bool {
	if g.Size < 0 || g.Size > api.MaxKeys || len(g.Edges) > api.MaxEdges {
		return false
	}
	there := map[int]bool{}
	for key := range g.Size {
		there[key] = true
	}
	for _, key := range g.Gone {
		if !there[key] {
			return false
		}
		there[key] = false
	}
	pairs := map[[2]int]bool{}
	for _, e := range g.Edges {
		p := [2]int{e.From, e.To}
		if !there[e.From] || !there[e.To] || e.From == e.To || pairs[p] || !slices.Contains([]int{1, 2, 3}, e.Level) {
			return false
		}
		pairs[p] = true
	}
	return slices.Equal(sorted(g.Edges), g.Edges) && slices.IsSorted(g.Gone)
}

// spoilt is a graph with one or two changes, which can leave it valid.
func spoilt(g api.Graph, r *rand.Rand) api.Graph {
	g.Edges, g.Gone = slices.Clone(g.Edges), slices.Clone(g.Gone)
	for range r.Intn(3) {
		e := &api.Edge{}
		if len(g.Edges) > 0 {
			e = &g.Edges[r.Intn(len(g.Edges))]
		}
		switch r.Intn(8) {
		case 0:
			g.Size += r.Intn(3) - 1
		case 1:
			e.From += r.Intn(3) - 1
		case 2:
			e.To += r.Intn(3) - 1
		case 3:
			e.Level += r.Intn(3) - 1
		case 4:
			g.Edges = append(g.Edges, *e)
		case 5:
			g.Gone = append(g.Gone, r.Intn(g.Size+2)-1)
		case 6:
			r.Shuffle(len(g.Edges), func(i, k int) { g.Edges[i], g.Edges[k] = g.Edges[k], g.Edges[i] })
		case 7:
			r.Shuffle(len(g.Gone), func(i, k int) { g.Gone[i], g.Gone[k] = g.Gone[k], g.Gone[i] })
		}
	}
	return g
}

// P11.1, P11.3: Check, Out, In, Level and Same of random graphs, valid or not, against their definitions.
func TestAgainstTheDefinitions(t *testing.T) {
	r := rand.New(rand.NewSource(1))
	valid := 0
	const rounds = 3000
	for range rounds {
		g := sample.Graph(r.Intn(8), r.Intn(20), r.Intn)
		other := spoilt(g, r)
		expectSame(t, "spoilt", g, other, isGraph(g, other))
		if !modelValid(other) {
			expectCheck(t, "spoilt", other, api.ErrGraph)
			continue
		}
		valid++
		expectCheck(t, "not spoilt", other, api.OK)
		for key := -1; key <= other.Size; key++ {
			out, in := modelEnds(other, key)
			expectEnds(t, other, key, out, in)
		}
		for level := 0; level <= api.MaxLevel+1; level++ {
			expectLevel(t, other, level, modelLevel(other, level))
		}
	}
	if valid < rounds/4 || valid > rounds*3/4 {
		t.Errorf("%d of %d graphs are valid", valid, rounds)
	}
}

// modelEnds is to which keys edges lead from a key, and from which ones to it, by asking for each pair of keys.
func modelEnds(g api.Graph, key int) (out, in []int) {
	for other := range g.Size {
		if slices.ContainsFunc(g.Edges, func(e api.Edge) bool { return e.From == key && e.To == other }) {
			out = append(out, other)
		}
		if slices.ContainsFunc(g.Edges, func(e api.Edge) bool { return e.From == other && e.To == key }) {
			in = append(in, other)
		}
	}
	return out, in
}

// modelLevel is what is left of a graph at a level, edge after edge.
func modelLevel(g api.Graph, level int) api.Graph {
	left := api.Graph{Size: g.Size, Gone: g.Gone}
	for _, e := range g.Edges {
		if e.Level >= level {
			left.Edges = append(left.Edges, e)
		}
	}
	return left
}

// P1: all functions of graphs come to an end, whatever the graph is, and change nothing of it.
func TestAnyGraph(t *testing.T) {
	r := rand.New(rand.NewSource(2))
	number := func() int {
		if r.Intn(3) == 0 {
			return far[r.Intn(len(far))]
		}
		return r.Intn(5) - 1
	}
	for range 1000 {
		g := api.Graph{Size: number()}
		for range r.Intn(9) {
			g.Edges = append(g.Edges, edge(number(), number(), number()))
		}
		for range r.Intn(4) {
			g.Gone = append(g.Gone, number())
		}
		want := api.ErrGraph
		if modelValid(g) {
			want = api.OK
		}
		expectCheck(t, "any graph", g, want)
		key, level := number(), number()
		kept(t, g, func(g api.Graph) {
			if out, in := Out(g, key), In(g, key); len(out) > len(g.Edges) || len(in) > len(g.Edges) {
				t.Errorf("of %v there are %v out of %d and %v into it", g, out, key, in)
			}
			if left := Level(g, level); len(left.Edges) > len(g.Edges) {
				t.Errorf("of %v there is %v at level %d", g, left, level)
			}
		})
		if want == api.ErrGraph {
			expectNotWith(t, "any graph", g, edge(number(), number(), number()), want)
			expectNotWithout(t, "any graph", g, number(), number(), want)
		}
	}
}
