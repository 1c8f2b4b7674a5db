package capacity

import (
	"math/rand"
	"slices"
	"testing"

	"trustflow/api"
	"trustflow/graph"
	"trustflow/sample"
)

// P13.1: the chapter's example.
func TestExample(t *testing.T) {
	p := policy([]int{5, 3, 2}, 0)
	for distance, want := range []int{5, 3, 2, 1} {
		expectOf(t, p, distance, want)
	}
	expectAll(t, sample.Line(4), p, 5, 3, 2, 1)
}

// P13.1: what is valid, each condition at its bound.
func TestValid(t *testing.T) {
	g := api.Graph{Size: 4}
	for name, p := range map[string]api.Policy{
		"one seed":             policy([]int{3, 2}, 1),
		"the first seed":       policy([]int{3, 2}, 0),
		"the last seed":        policy([]int{3, 2}, 3),
		"all seeds":            policy([]int{3, 2}, 0, 1, 2, 3),
		"the shortest table":   policy([]int{2}, 0),
		"the longest table":    policy([]int{8, 7, 6, 5, 4, 3, 2, 1}, 0),
		"the least table":      policy(slices.Repeat([]int{1}, api.MaxTable), 0),
		"the greatest table":   policy(slices.Repeat([]int{api.MaxCapacity}, api.MaxTable), 0),
		"from the top to 1":    policy([]int{api.MaxCapacity, 1}, 0),
		"a table that is flat": policy([]int{3, 3, 2, 2}, 0),
		"the least level":      at(policy([]int{3}, 0), 1),
		"the middle level":     at(policy([]int{3}, 0), 2),
		"the greatest level":   at(policy([]int{3}, 0), api.MaxLevel),
	} {
		expectCheck(t, name, g, p, api.OK)
		expectCheck(t, name, sample.Leave(g, 0, 1, 2, 3), p, api.OK)
		expectCheck(t, name, api.Graph{Size: api.MaxKeys, Edges: sample.Edges(api.MaxEdges, 1)}, p, api.OK)
	}
	expectCheck(t, "one key", api.Graph{Size: 1}, policy([]int{1}, 0), api.OK)
	expectCheck(t, "as many seeds as keys", api.Graph{Size: api.MaxKeys}, policy([]int{1}, sample.Numbers(api.MaxKeys)...), api.OK)
}

// P13.1: what is not valid, each condition just past its bound.
func TestNotValid(t *testing.T) {
	g := sample.Joined(4, [3]int{0, 1, 1}, [3]int{1, 3, 2})
	for name, p := range sample.WildPolicies() {
		expectCheck(t, name, g, p, api.ErrPolicy)
		expectCheck(t, name, sample.Leave(g, 2), p, api.ErrPolicy)
	}
	expectCheck(t, "the zero policy", g, api.Policy{}, api.ErrPolicy)
	expectCheck(t, "a seed of no keys", api.Graph{}, policy([]int{1}, 0), api.ErrPolicy)
	expectCheck(t, "no seed of no keys", api.Graph{}, policy([]int{1}), api.ErrPolicy)
	expectCheck(t, "a seed of greater graphs", api.Graph{Size: 3}, policy([]int{1}, 0, 3), api.ErrPolicy)
	expectCheck(t, "more seeds than keys", api.Graph{Size: api.MaxKeys}, policy([]int{1}, sample.Numbers(api.MaxKeys+1)...), api.ErrPolicy)
	expectCheck(t, "a table that is much too long", g, policy(slices.Repeat([]int{1}, 100), 0), api.ErrPolicy)
}

// P13.1: a graph that is not valid comes before a policy that is not.
func TestNoGraph(t *testing.T) {
	for name, g := range sample.WildGraphs() {
		expectCheck(t, name, g, policy([]int{1}, 0), api.ErrGraph)
		expectCheck(t, name, g, api.Policy{}, api.ErrGraph)
		for _, p := range sample.WildPolicies() {
			expectCheck(t, name, g, p, api.ErrGraph)
		}
	}
	// Also if only edges are wrong that would not count.
	bad := sample.Joined(4, [3]int{0, 1, 0}, [3]int{1, 2, 3})
	expectCheck(t, "an edge without a level", bad, at(policy([]int{1}, 0), 3), api.ErrGraph)
}

// P13.1: numbers of all kinds as seeds, as capacities and as levels.
func TestCheckFar(t *testing.T) {
	g := api.Graph{Size: api.MaxKeys}
	for _, n := range far {
		isSeed, isCapacity, isLevel := api.ErrPolicy, api.ErrPolicy, api.ErrPolicy
		if 0 <= n && n < api.MaxKeys {
			isSeed = api.OK
		}
		if 1 <= n && n <= api.MaxCapacity {
			isCapacity = api.OK
		}
		if 1 <= n && n <= api.MaxLevel {
			isLevel = api.OK
		}
		expectCheck(t, "seed", g, policy([]int{1}, n), isSeed)
		expectCheck(t, "capacity", g, policy([]int{n}, 0), isCapacity)
		expectCheck(t, "capacity at the end", g, policy([]int{api.MaxCapacity, n}, 0), isCapacity)
		expectCheck(t, "level", g, at(policy([]int{1}, 0), n), isLevel)
	}
}

// P13.1: tables of all lengths, the distances about their ends, and none.
func TestOf(t *testing.T) {
	for length := 1; length <= api.MaxTable; length++ {
		var table []int
		for distance := range length {
			table = append(table, 100*(length-distance))
		}
		for distance := range length {
			expectOf(t, policy(table, 0), distance, 100*(length-distance))
		}
		for _, distance := range []int{length, length + 1, length + 100} {
			expectOf(t, policy(table, 0), distance, 1)
		}
		for _, distance := range far {
			switch {
			case distance < 0:
				expectOf(t, policy(table, 0), distance, 0)
			case distance >= length:
				expectOf(t, policy(table, 0), distance, 1)
			}
		}
	}
	expectOf(t, policy([]int{api.MaxCapacity, api.MaxCapacity}, 5), 1, api.MaxCapacity)
	expectOf(t, at(policy([]int{7, 4}, 0, 1, 2), 3), 1, 4)
}

// P13.1: the capacities of keys by their distances, beyond the table, and of keys that are not reached.
func TestAll(t *testing.T) {
	g := sample.Joined(7, [3]int{0, 2, 1}, [3]int{2, 1, 1}, [3]int{1, 4, 1}, [3]int{4, 5, 1}, [3]int{6, 0, 1}, [3]int{6, 5, 1})
	expectAll(t, g, policy([]int{9, 7, 4}, 0), 9, 4, 7, 0, 1, 1, 0)
	expectAll(t, g, policy([]int{9, 7, 4}, 0, 6), 9, 4, 7, 0, 1, 7, 9)
	expectAll(t, g, policy([]int{9, 7, 4}, 1, 3), 0, 9, 0, 9, 7, 4, 0)
	expectAll(t, g, policy([]int{9}, 0), 9, 1, 1, 0, 1, 1, 0)
	expectAll(t, g, policy([]int{1, 1}, 0), 1, 1, 1, 0, 1, 1, 0)
	expectAll(t, g, policy([]int{8, 7, 6, 5, 4, 3, 2, 1}, 6), 7, 5, 6, 0, 4, 7, 8)
	expectAll(t, g, policy([]int{3, 2}, 3), 0, 0, 0, 3, 0, 0, 0)
	expectAll(t, g, policy([]int{3, 2}, 0, 1, 2, 3, 4, 5, 6), 3, 3, 3, 3, 3, 3, 3)
}

// P13.1: only edges of at least the level of the policy count.
func TestLevels(t *testing.T) {
	g := sample.Joined(5, [3]int{0, 1, 1}, [3]int{0, 2, 2}, [3]int{2, 1, 3}, [3]int{2, 3, 2}, [3]int{0, 4, 3})
	p := policy([]int{5, 3, 2}, 0)
	expectAll(t, g, at(p, 1), 5, 3, 3, 2, 3)
	expectAll(t, g, at(p, 2), 5, 2, 3, 2, 3)
	expectAll(t, g, at(p, 3), 5, 0, 0, 0, 3)
}

// P13.1: keys that are gone have no capacity, seeds neither.
func TestGone(t *testing.T) {
	g := sample.Leave(sample.Joined(5, [3]int{1, 3, 1}), 0, 4)
	expectAll(t, g, policy([]int{5, 3}, 0, 1), 0, 5, 0, 3, 0)
	expectAll(t, g, policy([]int{5, 3}, 0, 4), 0, 0, 0, 0, 0)
	expectBound(t, g, policy([]int{5, 3}, 0, 1), 0, 0, 4)
	expectBound(t, g, policy([]int{5, 3}, 0, 1), 5, 0, 1, 4)
}

// P13.1, P13.2: as many keys and edges as there can be, and one key.
func TestSizes(t *testing.T) {
	expectAll(t, api.Graph{Size: 1}, policy([]int{4}, 0), 4)
	expectBound(t, api.Graph{Size: 1}, policy([]int{4}, 0), 4, 0)
	table := []int{9, 8, 7, 6, 5, 4, 3, 2}
	expectAll(t, sample.Line(api.MaxKeys), policy(table, 0), append(slices.Clone(table), slices.Repeat([]int{1}, api.MaxKeys-len(table))...)...)
	expectBound(t, sample.Line(api.MaxKeys), policy(table, 0), 1, sample.Numbers(api.MaxKeys)[8:]...)
	full := api.Graph{Size: api.MaxKeys, Edges: sample.Edges(api.MaxEdges, 3)}
	all := sample.Numbers(api.MaxKeys)
	// Edges lead from seven keys to all others, from the eighth one to all but the last four.
	great := policy(slices.Repeat([]int{api.MaxCapacity}, api.MaxTable), all...)
	expectAll(t, full, great, slices.Repeat([]int{api.MaxCapacity}, api.MaxKeys)...)
	expectBound(t, full, great, api.MaxKeys*api.MaxCapacity, all...)
	expectBound(t, full, great, 8*(api.MaxCapacity-1)+(api.MaxKeys-8)*api.MaxCapacity, all[8:]...)
	expectBound(t, full, policy([]int{5, 4}, 0), 4+6*3, all[api.MaxKeys-1])
}

// P13.2: what seeds bring, what deceived keys bring, and that nobody else brings anything.
func TestBound(t *testing.T) {
	g := sample.Joined(8, [3]int{0, 1, 1}, [3]int{1, 2, 1}, [3]int{1, 3, 1}, [3]int{2, 3, 1}, [3]int{3, 4, 1}, [3]int{6, 4, 1}, [3]int{4, 5, 1})
	p := policy([]int{6, 4, 3}, 0)
	expectAll(t, g, p, 6, 4, 3, 3, 1, 1, 0, 0)
	for _, c := range []struct {
		want int
		keys []int
	}{
		{0, nil}, {0, []int{7}},
		// The seed brings all that it has, and no more if edges lead to it.
		{6, []int{0}}, {6, []int{0, 7}}, {6, []int{0, 1}}, {6, []int{0, 1, 2, 3, 4, 5, 6, 7}},
		// One less than what they have, each once, is what others bring, from whom edges lead to some.
		{5, []int{1}}, {3, []int{2}}, {3 + 2, []int{3}}, {3, []int{2, 3}}, {5, []int{1, 2}},
		// A key that is not reached brings nothing; one with a capacity of 1 neither.
		{2, []int{4}}, {0, []int{5}}, {0, []int{6}},
		{2, []int{4, 5}}, {5 + 2, []int{1, 3, 4}}, {6 + 2, []int{0, 4}}, {6 + 3, []int{0, 2}},
		{6 + 3 + 2, []int{0, 2, 4}}, {5 + 2, []int{1, 2, 4}}, {6 + 2, []int{0, 1, 2, 4}}, {3, []int{2, 3, 4}},
	} {
		expectBound(t, g, p, c.want, c.keys...)
	}
}

// P13.2: only seeds among the keys count as seeds; another seed brings one less, and only if an edge leads from it to one of the keys.
func TestBoundOfSeeds(t *testing.T) {
	g := sample.Joined(6, [3]int{0, 2, 1}, [3]int{1, 3, 1}, [3]int{2, 0, 1}, [3]int{3, 1, 1})
	p := policy([]int{7, 5}, 0, 1, 4)
	expectAll(t, g, p, 7, 7, 5, 5, 7, 0)
	expectBound(t, g, p, 7, 4)
	expectBound(t, g, p, 7+4, 0)
	expectBound(t, g, p, 7, 0, 2)
	expectBound(t, g, p, 7+7+4+4, 0, 1)
	expectBound(t, g, p, 7+7+7, 0, 1, 2, 3, 4)
	expectBound(t, g, p, 6+6, 2, 3)
	expectBound(t, g, p, 6+4+7, 1, 2)
}

// P13.2: a capacity of 1 or of none brings nothing, and takes nothing away.
func TestBoundOfNothing(t *testing.T) {
	g := sample.Joined(8, [3]int{0, 1, 1}, [3]int{0, 5, 1}, [3]int{1, 5, 1}, [3]int{2, 5, 1}, [3]int{3, 5, 1}, [3]int{4, 5, 1})
	expectBound(t, g, policy([]int{3}, 0), 2, 5)
	expectBound(t, g, policy([]int{1}, 0), 0, 5)
	expectBound(t, g, policy([]int{1}, 0), 1, 0, 5)
	expectBound(t, g, policy([]int{3, 2}, 6), 0, 5)
	expectBound(t, g, policy([]int{3, 2}, 6, 7), 3, 5, 6)
}

// P13.2: edges of a lesser level lead nobody to the keys, and leave keys without a capacity.
func TestBoundAtLevels(t *testing.T) {
	g := sample.Joined(5, [3]int{0, 1, 3}, [3]int{0, 2, 2}, [3]int{1, 4, 1}, [3]int{2, 4, 2}, [3]int{0, 4, 3}, [3]int{3, 4, 3})
	p := policy([]int{9, 5}, 0)
	expectBound(t, g, at(p, 1), 8+4+4, 4)
	expectBound(t, g, at(p, 2), 8+4, 4)
	expectBound(t, g, at(p, 3), 8, 4)
	expectBound(t, g, at(p, 3), 0, 2)
	expectBound(t, g, at(p, 3), 8, 2, 4)
	expectBound(t, g, at(p, 3), 9, 0, 2)
}

// P13.2, and the document's examples 4 and 5: a ring of invented keys, whatever edges there are between these, and the key that it has deceived.
func TestRing(t *testing.T) {
	expectBound(t, sample.Joined(3, [3]int{0, 1, 1}, [3]int{0, 2, 1}), policy([]int{2}, 0), 1, 1, 2)
	edges := [][3]int{{0, 1, 1}}
	for from := 2; from < 12; from++ {
		edges = append(edges, [3]int{1, from, 1})
		for to := 2; to < 12; to++ {
			if from != to {
				edges = append(edges, [3]int{from, to, 1})
			}
		}
	}
	g, p := sample.Joined(12, edges...), policy([]int{6, 4, 3}, 0)
	ring := sample.Numbers(12)[2:]
	expectBound(t, g, p, 3, ring...)
	expectBound(t, g, p, 5, append(ring, 1)...)
	// Those of the ring that are not counted among the keys vouch for these too.
	expectBound(t, g, p, 3+9*2, ring[0])
}

// The consequence: the bound of more keys can be less: a key that was deceived and is one of them brings nothing.
func TestMoreKeysLess(t *testing.T) {
	g := sample.Joined(4, [3]int{0, 1, 1}, [3]int{0, 2, 1}, [3]int{1, 3, 1}, [3]int{2, 3, 1})
	p := policy([]int{2, 2}, 0)
	expectBound(t, g, p, 2, 3)
	expectBound(t, g, p, 2, 1, 3)
	expectBound(t, g, p, 1, 1, 2, 3)
}

// R1, R2: each call returns the same, whatever others were asked in between.
func TestAgain(t *testing.T) {
	for range 3 {
		expectAll(t, sample.Line(3), policy([]int{5, 3, 2}, 0), 5, 3, 2)
		expectBound(t, sample.Line(3), policy([]int{5, 3, 2}, 0), 2, 2)
		expectAll(t, sample.Line(3), policy([]int{4}, 2), 0, 0, 4)
		expectBound(t, sample.Line(3), policy([]int{4}, 2), 4, 2)
	}
}

// P1: all functions come to an end, whatever the graph, the policy and the keys are, and change nothing of these; of a graph that is not valid there is nothing.
func TestAnyArguments(t *testing.T) {
	for name, g := range sample.WildGraphs() {
		ends(t, name, g, policy([]int{3, 2}, 0), []int{1, 2})
		for reason, p := range sample.WildPolicies() {
			ends(t, name+", "+reason, g, p, far)
			ends(t, reason, sample.Line(4), p, far)
		}
	}
	ends(t, "keys in millions", sample.Line(4), policy([]int{3, 2}, 0), slices.Repeat([]int{3, -1, 4}, 1<<20))
	r := rand.New(rand.NewSource(1))
	number := func() int {
		if r.Intn(4) == 0 {
			return far[r.Intn(len(far))]
		}
		return r.Intn(6) - 1
	}
	numbers := func(n int) (l []int) {
		for range r.Intn(n) {
			l = append(l, number())
		}
		return l
	}
	for range 3000 {
		g := api.Graph{Size: number(), Gone: numbers(3)}
		for range r.Intn(9) {
			g.Edges = append(g.Edges, api.Edge{From: number(), To: number(), Level: number()})
		}
		ends(t, "any arguments", g, api.Policy{Seeds: numbers(4), Table: numbers(12), Level: number()}, numbers(6))
	}
}

// ends asserts that all functions come to an end, and what they return of a graph that is not valid.
func ends(t *testing.T, name string, g api.Graph, p api.Policy, keys []int) {
	t.Helper()
	kept(t, g, p, keys, func(g api.Graph, p api.Policy, keys []int) {
		err, all, bound := Check(g, p), All(g, p), Bound(g, p, keys)
		for _, distance := range keys[:min(len(keys), len(far))] {
			Of(p, distance)
		}
		if err == api.ErrGraph && (len(all) != 0 || bound != 0) {
			t.Errorf("%s: with %v the capacities of %v are %v, the bound of %v is %d", name, p, g, all, keys, bound)
		}
	})
}

// P13.1: in the graphs of statements, from a vouch until it has ended, as in the document's examples 1 and 2.
func TestOfStatements(t *testing.T) {
	l := sample.Write(0, sample.Vouch(3, 1, 3, 50))
	for time, want := range map[int]int{2: 0, 3: 3, 5: 3, 49: 3, 50: 0} {
		g, err := graph.At(l, time, 1)
		if got := All(g, policy([]int{5, 3, 2}, 0)); err != api.OK || len(got) != api.MaxKeys || got[0] != 5 || got[1] != want {
			t.Errorf("at %d the capacities are %v, error %d", time, got, err)
		}
	}
}
