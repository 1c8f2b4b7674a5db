package distance

import (
	"math/rand"
	"slices"
	"testing"

	"trustflow/api"
	"trustflow/graph"
	"trustflow/sample"
)

// P12.1, P12.2: the chapter's example.
func TestExample(t *testing.T) {
	g := steps(3, [2]int{0, 2}, [2]int{2, 1})
	expect(t, g, []int{0}, []int{0, 2, 1}, []int{0, 2, 1})
	expectWay(t, g, []int{0}, 0, 0)
	expectWay(t, g, []int{0}, 2, 0, 2)
	expectWay(t, g, []int{0}, 1, 0, 2, 1)
}

// P12.1: ways lead along edges only, not against them; the shortest one counts, of the nearest seed.
func TestDistances(t *testing.T) {
	g := steps(7, [2]int{0, 1}, [2]int{1, 2}, [2]int{2, 3}, [2]int{3, 0}, [2]int{0, 3}, [2]int{4, 2}, [2]int{5, 4})
	for _, c := range []struct{ seeds, distances, order []int }{
		{[]int{0}, []int{0, 1, 2, 1, -1, -1, -1}, []int{0, 1, 3, 2}},
		{[]int{1}, []int{3, 0, 1, 2, -1, -1, -1}, []int{1, 2, 3, 0}},
		{[]int{4}, []int{3, 4, 1, 2, 0, -1, -1}, []int{4, 2, 3, 0, 1}},
		{[]int{5}, []int{4, 5, 2, 3, 1, 0, -1}, []int{5, 4, 2, 3, 0, 1}},
		{[]int{6}, []int{-1, -1, -1, -1, -1, -1, 0}, []int{6}},
		{[]int{1, 4}, []int{3, 0, 1, 2, 0, -1, -1}, []int{1, 4, 2, 3, 0}},
		{[]int{0, 5}, []int{0, 1, 2, 1, 1, 0, -1}, []int{0, 5, 1, 3, 4, 2}},
		{[]int{2, 6}, []int{2, 3, 0, 1, -1, -1, 0}, []int{2, 6, 3, 0, 1}},
		{[]int{0, 1, 2, 3, 4, 5, 6}, []int{0, 0, 0, 0, 0, 0, 0}, []int{0, 1, 2, 3, 4, 5, 6}},
		{nil, none(7), nil},
		{[]int{}, none(7), nil},
	} {
		expect(t, g, c.seeds, c.distances, c.order)
	}
}

// P12.1: edges count whatever their levels are.
func TestLevels(t *testing.T) {
	for level := 1; level <= api.MaxLevel; level++ {
		g := api.Graph{Size: 3, Edges: []api.Edge{{From: 0, To: 1, Level: level}, {From: 1, To: 2, Level: 1 + level%api.MaxLevel}}}
		expect(t, g, []int{0}, []int{0, 1, 2}, []int{0, 1, 2})
		expectWay(t, g, []int{0}, 2, 0, 1, 2)
	}
}

// P12.1: the order is by distance first, then by number, not by text, nor by when a key is found.
func TestOrder(t *testing.T) {
	g := steps(64, [2]int{20, 9}, [2]int{20, 63}, [2]int{7, 10}, [2]int{7, 11}, [2]int{63, 1}, [2]int{10, 2}, [2]int{10, 0}, [2]int{2, 62})
	want := none(64)
	for key, distance := range map[int]int{7: 0, 20: 0, 9: 1, 10: 1, 11: 1, 63: 1, 0: 2, 1: 2, 2: 2, 62: 3} {
		want[key] = distance
	}
	expect(t, g, []int{7, 20}, want, []int{7, 20, 9, 10, 11, 63, 0, 1, 2, 62})
}

// P12.1, P12.2: graphs without keys, without edges, and with as many of them as there can be.
func TestSizes(t *testing.T) {
	for _, seeds := range [][]int{nil, {0}, {-1, 0, 1, 64}} {
		expect(t, api.Graph{}, seeds, nil, nil)
		expectNoWay(t, api.Graph{}, seeds, 0)
	}
	expect(t, api.Graph{Size: 1}, []int{0}, []int{0}, []int{0})
	expect(t, api.Graph{Size: 1}, nil, []int{-1}, nil)
	expect(t, api.Graph{Size: api.MaxKeys}, sample.Numbers(api.MaxKeys), make([]int, api.MaxKeys), sample.Numbers(api.MaxKeys))
	expect(t, api.Graph{Size: api.MaxKeys}, nil, none(api.MaxKeys), nil)
	expect(t, sample.Line(api.MaxKeys), []int{0}, sample.Numbers(api.MaxKeys), sample.Numbers(api.MaxKeys))
	expectWay(t, sample.Line(api.MaxKeys), []int{0}, api.MaxKeys-1, sample.Numbers(api.MaxKeys)...)
	full := api.Graph{Size: api.MaxKeys, Edges: sample.Edges(api.MaxEdges, 1)}
	want := append([]int{1, 0}, slices.Repeat([]int{1}, api.MaxKeys-2)...)
	expect(t, full, []int{1}, want, append([]int{1, 0}, sample.Numbers(api.MaxKeys)[2:]...))
	expectWay(t, full, []int{1}, api.MaxKeys-1, 1, api.MaxKeys-1)
}

// Both promises: seeds count in any order, and also several times; those that are no keys of the graph are passed over.
func TestSeeds(t *testing.T) {
	g := steps(6, [2]int{0, 4}, [2]int{2, 4}, [2]int{4, 5}, [2]int{5, 0}, [2]int{0, 3})
	for _, seeds := range [][]int{
		{0, 2}, {2, 0}, {2, 2, 0}, {0, 2, 0}, {0, 0, 2, 2, 0},
		{-1, 0, 2}, {0, 2, 6}, {6, 2, -1, 0}, {64, 0, 63, 2, 1 << 40},
		slices.Concat(far[:5], []int{2}, far[7:], []int{0}), slices.Repeat([]int{2, -1, 0, 6}, 1000),
	} {
		expect(t, g, seeds, []int{0, -1, 0, 1, 1, 2}, []int{0, 2, 3, 4, 5})
		expectWay(t, g, seeds, 5, 0, 4, 5)
		expectWay(t, g, seeds, 2, 2)
		expectNoWay(t, g, seeds, 1)
	}
	for _, seed := range far {
		if seed < 0 || seed >= 6 {
			expect(t, g, []int{seed}, none(6), nil)
			expectNoWay(t, g, []int{seed}, 4)
			expectNoWay(t, g, []int{seed}, seed)
		}
	}
}

// Both promises: keys that are gone are not reached, also if they are seeds.
func TestGone(t *testing.T) {
	g := sample.Leave(steps(6, [2]int{1, 2}, [2]int{2, 5}), 0, 3)
	expect(t, g, []int{1}, []int{-1, 0, 1, -1, -1, 2}, []int{1, 2, 5})
	expect(t, g, []int{0, 1, 3}, []int{-1, 0, 1, -1, -1, 2}, []int{1, 2, 5})
	expect(t, g, []int{3, 4}, []int{-1, -1, -1, -1, 0, -1}, []int{4})
	expect(t, g, []int{0, 3}, none(6), nil)
	for _, seeds := range [][]int{{0}, {3}, {0, 3}, {0, 1, 2, 3, 4, 5}} {
		expectNoWay(t, g, seeds, 0)
		expectNoWay(t, g, seeds, 3)
	}
	expectWay(t, g, []int{0, 1, 3}, 5, 1, 2, 5)
	all := sample.Leave(api.Graph{Size: api.MaxKeys}, sample.Numbers(api.MaxKeys)...)
	expect(t, all, sample.Numbers(api.MaxKeys), none(api.MaxKeys), nil)
	expectNoWay(t, all, sample.Numbers(api.MaxKeys), 63)
}

// P12.2: fewer edges come before lesser keys.
func TestWayIsShort(t *testing.T) {
	g := steps(9, [2]int{0, 1}, [2]int{1, 2}, [2]int{2, 3}, [2]int{0, 8}, [2]int{8, 3}, [2]int{7, 6}, [2]int{6, 3}, [2]int{7, 2})
	expectWay(t, g, []int{0}, 3, 0, 8, 3)
	expectWay(t, g, []int{0, 8}, 3, 8, 3)
	expectWay(t, g, []int{0, 7}, 2, 7, 2)
	expectWay(t, g, []int{0, 7}, 3, 0, 8, 3)
	expectWay(t, g, []int{1, 7}, 3, 1, 2, 3)
	expectWay(t, g, []int{0, 3}, 3, 3)
}

// P12.2: of several ways of one length the first difference decides, not a later one, and not from behind.
func TestWayIsLeast(t *testing.T) {
	// The lesser beginning leads to the greater key before the last one.
	g := steps(8, [2]int{0, 1}, [2]int{0, 2}, [2]int{1, 4}, [2]int{2, 3}, [2]int{3, 5}, [2]int{4, 5}, [2]int{5, 6})
	expectWay(t, g, []int{0}, 5, 0, 1, 4, 5)
	expectWay(t, g, []int{0}, 6, 0, 1, 4, 5, 6)
	expectWay(t, g, []int{0}, 3, 0, 2, 3)
	expectWay(t, g, []int{1, 2}, 6, 1, 4, 5, 6)
	expectWay(t, g, []int{2, 1}, 5, 1, 4, 5)
	expectWay(t, g, []int{3, 4}, 5, 3, 5)
	expectWay(t, g, []int{4, 3}, 6, 3, 5, 6)
	// Also if the two ways meet only later, and the lesser one has the greater keys in between.
	g = steps(12, [2]int{0, 1}, [2]int{0, 2}, [2]int{1, 9}, [2]int{2, 8}, [2]int{9, 6}, [2]int{8, 5}, [2]int{6, 10}, [2]int{5, 10}, [2]int{10, 3})
	expectWay(t, g, []int{0}, 10, 0, 1, 9, 6, 10)
	expectWay(t, g, []int{0}, 3, 0, 1, 9, 6, 10, 3)
	// Numbers are compared, not their texts.
	g = steps(64, [2]int{0, 9}, [2]int{0, 10}, [2]int{9, 11}, [2]int{10, 11}, [2]int{2, 40}, [2]int{10, 40})
	expectWay(t, g, []int{0}, 11, 0, 9, 11)
	expectWay(t, g, []int{10, 2}, 40, 2, 40)
	expectWay(t, g, []int{9, 10}, 11, 9, 11)
}

// P12.2: nothing and false for keys that the graph does not have, and for those to which no way leads.
func TestNoWay(t *testing.T) {
	g := sample.Leave(steps(7, [2]int{1, 2}, [2]int{3, 1}, [2]int{4, 5}, [2]int{5, 4}), 6)
	for _, key := range []int{0, 3, 4, 5, 6, 7, 63, 64, -1} {
		expectNoWay(t, g, []int{1}, key)
	}
	for _, key := range far {
		if key < 0 || key >= 7 {
			expectNoWay(t, g, []int{1, key}, key)
			expectNoWay(t, g, sample.Numbers(7), key)
		}
		expectNoWay(t, g, nil, key)
	}
	expectNoWay(t, api.Graph{Size: api.MaxKeys}, sample.Numbers(api.MaxKeys), api.MaxKeys)
}

// R1, R2: each call returns the same, whatever others were asked in between.
func TestAgain(t *testing.T) {
	for range 3 {
		expect(t, sample.Line(5), []int{1}, []int{-1, 0, 1, 2, 3}, []int{1, 2, 3, 4})
		expectWay(t, sample.Line(5), []int{1}, 3, 1, 2, 3)
		expect(t, steps(3, [2]int{2, 0}), []int{2}, []int{1, -1, 0}, []int{2, 0})
		expectNoWay(t, sample.Line(5), []int{4}, 3)
	}
}

// P1: all functions come to an end, whatever the graph is, and change nothing of it; where there is no way there are no keys.
func TestAnyGraph(t *testing.T) {
	for name, g := range sample.WildGraphs() {
		for key := -2; key <= api.MaxKeys+1; key++ {
			ends(t, name, g, []int{0, 1, 3, key}, key)
		}
	}
	r := rand.New(rand.NewSource(1))
	number := func() int {
		if r.Intn(4) == 0 {
			return far[r.Intn(len(far))]
		}
		return r.Intn(6) - 1
	}
	for range 2000 {
		g := api.Graph{Size: number()}
		for range r.Intn(9) {
			g.Edges = append(g.Edges, api.Edge{From: number(), To: number(), Level: number()})
		}
		var seeds []int
		for range r.Intn(4) {
			g.Gone, seeds = append(g.Gone, number()), append(seeds, number())
		}
		ends(t, "any graph", g, seeds, number())
	}
}

// ends asserts that all functions come to an end.
func ends(t *testing.T, name string, g api.Graph, seeds []int, key int) {
	t.Helper()
	kept(t, g, seeds, func(g api.Graph, seeds []int) {
		All(g, seeds)
		Order(g, seeds)
		if way, ok := Way(g, seeds, key); !ok && len(way) != 0 {
			t.Errorf("%s: from %v the way to %d of %v is %v, but there is none", name, seeds, key, g, way)
		}
	})
}

// P12.1: in the graphs of statements, from a vouch until it has ended, as in the document's examples 1 and 2.
func TestOfStatements(t *testing.T) {
	l := sample.Write(0, sample.Vouch(3, 1, 3, 50))
	for time, want := range map[int]int{2: -1, 3: 1, 5: 1, 49: 1, 50: -1} {
		g, err := graph.At(l, time, 1)
		if got := All(g, []int{0}); err != api.OK || len(got) != api.MaxKeys || got[0] != 0 || got[1] != want {
			t.Errorf("at %d the distances are %v, error %d", time, got, err)
		}
	}
}
