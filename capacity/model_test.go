package capacity

import (
	"math/rand"
	"slices"
	"testing"

	"trustflow/api"
	"trustflow/graph"
	"trustflow/sample"
)

// modelAll is the capacities of all keys, by trying all edges that count until no key comes nearer to a seed.
func modelAll(g api.Graph, p api.Policy) []int {
	const far = api.MaxKeys
	steps := slices.Repeat([]int{far}, g.Size)
	for _, seed := range p.Seeds {
		if !slices.Contains(g.Gone, seed) {
			steps[seed] = 0
		}
	}
	for range g.Size {
		for _, e := range g.Edges {
			if e.Level >= p.Level && steps[e.From] != far {
				steps[e.To] = min(steps[e.To], steps[e.From]+1)
			}
		}
	}
	// What there is at each distance, and at last for keys that are not reached.
	table := append(slices.Concat(p.Table, slices.Repeat([]int{1}, far))[:far], 0)
	var capacities []int
	for _, n := range steps {
		capacities = append(capacities, table[n])
	}
	return capacities
}

// modelBound is the bound of keys of g, edge by edge: who was deceived is written down, and brings what it can at last.
func modelBound(g api.Graph, p api.Policy, keys []int) int {
	capacities := modelAll(g, p)
	deceived := map[int]int{}
	for _, e := range g.Edges {
		if e.Level >= p.Level && slices.Contains(keys, e.To) && !slices.Contains(keys, e.From) && capacities[e.From] > 0 {
			deceived[e.From] = capacities[e.From] - 1
		}
	}
	bound := 0
	for _, n := range deceived {
		bound += n
	}
	for _, seed := range p.Seeds {
		if slices.Contains(keys, seed) {
			bound += capacities[seed]
		}
	}
	return bound
}

// someKeys are some keys of a graph, in any order, each once.
func someKeys(size int, r *rand.Rand) []int { return r.Perm(size)[:r.Intn(size+1)] }

// P13.1, P13.2: random graphs, small and great, with random policies and keys, against the definitions.
func TestAgainstTheDefinition(t *testing.T) {
	r := rand.New(rand.NewSource(1))
	sizes := map[string]int{}
	for i := range 12000 {
		g := sample.Graph(1+r.Intn(9), r.Intn(24), r.Intn)
		if i%40 == 0 {
			g = sample.Graph(30+r.Intn(api.MaxKeys-29), r.Intn(api.MaxEdges), r.Intn)
		}
		p := sample.Policy(g.Size, r.Intn)
		capacities := modelAll(g, p)
		expectAll(t, g, p, capacities...)
		keys := someKeys(g.Size, r)
		bound := modelBound(g, p, keys)
		expectBound(t, g, p, bound, keys...)
		if bound > 4 {
			sizes["great bounds"]++
		}
		for _, capacity := range capacities {
			switch {
			case capacity > 1:
				sizes["great capacities"]++
			case capacity == 0:
				sizes["keys that are not reached"]++
			}
		}
	}
	for _, what := range []string{"great bounds", "great capacities", "keys that are not reached"} {
		if sizes[what] < 2000 {
			t.Errorf("there were only %d %s", sizes[what], what)
		}
	}
}

// The consequence: no capacity becomes less by one more edge.
func TestOneMoreEdge(t *testing.T) {
	r := rand.New(rand.NewSource(2))
	more := 0
	for range 4000 {
		g := sample.Graph(2+r.Intn(9), r.Intn(20), r.Intn)
		p := sample.Policy(g.Size, r.Intn)
		e := api.Edge{From: r.Intn(g.Size), To: r.Intn(g.Size), Level: 1 + r.Intn(api.MaxLevel)}
		h, err := graph.With(g, e)
		if err != api.OK {
			continue
		}
		before, after := All(g, p), All(h, p)
		for key := range before {
			if after[key] < before[key] {
				t.Errorf("with %v the capacities of %v are %v, with %v they are %v", p, g, before, e, after)
			}
			if after[key] > before[key] {
				more++
			}
		}
	}
	if more < 300 {
		t.Errorf("only %d keys got more", more)
	}
}

// served is how many of some keys can have a way from a seed at a time, if no key is on more ways than its capacity, and passes on one less than that.
func served(g api.Graph, p api.Policy, keys []int) int {
	const source, sink = 0, 1
	in, out := func(key int) int { return 2 + 2*key }, func(key int) int { return 3 + 2*key }
	left := make([][]int, 2+2*g.Size)
	for node := range left {
		left[node] = make([]int, len(left))
	}
	for key, capacity := range modelAll(g, p) {
		left[in(key)][out(key)] = max(0, capacity-1)
		if slices.Contains(p.Seeds, key) {
			left[source][in(key)] = capacity
		}
		if slices.Contains(keys, key) {
			left[in(key)][sink] = 1
		}
	}
	for _, e := range g.Edges {
		if e.Level >= p.Level {
			left[out(e.From)][in(e.To)] = api.MaxKeys
		}
	}
	n := 0
	for pushes(left, make([]bool, len(left)), source, sink) {
		n++
	}
	return n
}

// pushes takes a way from one node to another one, if there is one on which something is left, and reports whether there is.
func pushes(left [][]int, seen []bool, from, to int) bool {
	if from == to {
		return true
	}
	seen[from] = true
	for next := range left {
		if !seen[next] && left[from][next] > 0 && pushes(left, seen, next, to) {
			left[from][next]--
			left[next][from]++
			return true
		}
	}
	return false
}

// P3: of no keys more can be served than the bound says; often it is exactly as many.
func TestBoundHolds(t *testing.T) {
	r := rand.New(rand.NewSource(3))
	exact, less := 0, 0
	for range 4000 {
		g := sample.Graph(1+r.Intn(9), r.Intn(30), r.Intn)
		p := sample.Policy(g.Size, r.Intn)
		keys := someKeys(g.Size, r)
		switch n, bound := served(g, p, keys), Bound(g, p, keys); {
		case n > bound:
			t.Errorf("of %v in %v with %v there can be %d, but the bound is %d", keys, g, p, n, bound)
		case n == bound && n > 0:
			exact++
		case n < bound && n < len(keys):
			less++
		}
	}
	if exact < 200 || less < 20 {
		t.Errorf("the bound was exact %d times, and more than there could be %d times", exact, less)
	}
}
