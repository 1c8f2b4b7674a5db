package distance

import (
	"math/rand"
	"slices"
	"testing"

	"trustflow/api"
	"trustflow/graph"
	"trustflow/sample"
)

// someSeeds are a few numbers about the keys of a graph, in any order: seeds of it, others that it does not have, and some of them twice.
func someSeeds(g api.Graph, r *rand.Rand) []int {
	var l []int
	for range r.Intn(4) {
		l = append(l, r.Intn(g.Size+2)-1)
	}
	return l
}

// isThere reports whether a graph has a key that is not gone.
func isThere(g api.Graph, key int) bool {
	return key >= 0 && key < g.Size && !slices.Contains(g.Gone, key)
}

// isBefore reports whether one way is shorter than another one, or as long and less.
func isBefore(a, b []int) bool {
	return len(a) < len(b) || len(a) == len(b) && slices.Compare(a, b) < 0
}

// modelWays is the least shortest way to each key of a graph, of all ways that come to no key twice.
func modelWays(g api.Graph, seeds []int) map[int][]int {
	ways := map[int][]int{}
	var walk func(way []int)
	walk = func(way []int) {
		end := way[len(way)-1]
		if least, ok := ways[end]; !ok || isBefore(way, least) {
			ways[end] = slices.Clone(way)
		}
		for _, e := range g.Edges {
			if e.From == end && !slices.Contains(way, e.To) {
				walk(append(slices.Clone(way), e.To))
			}
		}
	}
	for _, seed := range seeds {
		if isThere(g, seed) {
			walk([]int{seed})
		}
	}
	return ways
}

// expectWays asserts all that there is of a graph, by the ways to its keys.
func expectWays(t *testing.T, g api.Graph, seeds []int, ways map[int][]int) {
	t.Helper()
	distances := none(g.Size)
	var order []int
	for key := range g.Size {
		if way, ok := ways[key]; ok {
			distances[key] = len(way) - 1
		}
	}
	for distance := range g.Size {
		for key := range g.Size {
			if distances[key] == distance {
				order = append(order, key)
			}
		}
	}
	expect(t, g, seeds, distances, order)
	for key := -1; key <= g.Size; key++ {
		if way, ok := ways[key]; ok {
			expectWay(t, g, seeds, key, way...)
		} else {
			expectNoWay(t, g, seeds, key)
		}
	}
}

// P12.1, P12.2: small random graphs, against the definition: of all ways the shortest one, of these the least one.
func TestAgainstTheDefinition(t *testing.T) {
	r := rand.New(rand.NewSource(1))
	reached, distant := 0, 0
	for range 15000 {
		g := sample.Graph(r.Intn(9), r.Intn(24), r.Intn)
		seeds := someSeeds(g, r)
		ways := modelWays(g, seeds)
		expectWays(t, g, seeds, ways)
		for _, way := range ways {
			reached++
			if len(way) > 3 {
				distant++
			}
		}
	}
	if reached < 15000 || distant < 800 {
		t.Errorf("only %d keys were reached, %d of them from far", reached, distant)
	}
}

// relaxed is the least number of edges between each key and the nearest one of some others, by trying all edges until nothing changes; there is none that is greater than the size.
func relaxed(g api.Graph, ends []int, back bool) []int {
	steps := slices.Repeat([]int{g.Size + 1}, g.Size)
	for _, key := range ends {
		if isThere(g, key) {
			steps[key] = 0
		}
	}
	for range g.Size {
		for _, e := range g.Edges {
			if back {
				e.From, e.To = e.To, e.From
			}
			steps[e.To] = min(steps[e.To], steps[e.From]+1)
		}
	}
	return steps
}

// modelWay is the least way of the least number of edges to a key: at each place the least key that is nearer to its end.
func modelWay(g api.Graph, seeds []int, key, length int) []int {
	left := relaxed(g, []int{key}, true)
	var way []int
	for steps := length; steps >= 0; steps-- {
		least := g.Size
		for next := range g.Size {
			follows := slices.Contains(seeds, next)
			if len(way) > 0 {
				follows = slices.Contains(graph.Out(g, way[len(way)-1]), next)
			}
			if follows && left[next] == steps {
				least = min(least, next)
			}
		}
		way = append(way, least)
	}
	return way
}

// P12.1, P12.2: great random graphs, sparse and dense, against ways that are found from their ends.
func TestGreatGraphs(t *testing.T) {
	r := rand.New(rand.NewSource(2))
	distant := 0
	for range 60 {
		g := sample.Graph(40+r.Intn(api.MaxKeys-39), 30+r.Intn(api.MaxEdges-29), r.Intn)
		seeds := someSeeds(g, r)
		ways := map[int][]int{}
		for key, steps := range relaxed(g, seeds, false) {
			if steps > g.Size {
				continue
			}
			ways[key] = modelWay(g, seeds, key, steps)
			if steps > 4 {
				distant++
			}
		}
		expectWays(t, g, seeds, ways)
	}
	if distant < 100 {
		t.Errorf("only %d keys were reached from far", distant)
	}
}

// steppedGraph is a graph of rows of keys, so many in each one, from all of which edges lead to some of the next row: there are many ways of one length. The numbers of the keys are shuffled.
func steppedGraph(rows, width int, r *rand.Rand) (g api.Graph, seeds []int) {
	names := r.Perm(rows * width)
	var pairs [][2]int
	for row := 1; row < rows; row++ {
		for from := range width {
			for to := range width {
				if r.Intn(3) > 0 {
					pairs = append(pairs, [2]int{names[(row-1)*width+from], names[row*width+to]})
				}
			}
		}
	}
	return steps(rows*width, pairs...), names[:width]
}

// P12.2: of very many ways of one length, the least one.
func TestManyWays(t *testing.T) {
	r := rand.New(rand.NewSource(3))
	for range 40 {
		g, seeds := steppedGraph(2+r.Intn(9), 2+r.Intn(5), r)
		ways := map[int][]int{}
		for key, steps := range relaxed(g, seeds, false) {
			if steps <= g.Size {
				ways[key] = modelWay(g, seeds, key, steps)
			}
		}
		expectWays(t, g, seeds, ways)
	}
}

// The consequence: with one more edge no distance becomes greater, and what was reached stays so; without one none becomes less.
func TestOneMoreEdge(t *testing.T) {
	r := rand.New(rand.NewSource(4))
	nearer := 0
	for range 1500 {
		g := sample.Graph(2+r.Intn(9), r.Intn(20), r.Intn)
		e := api.Edge{From: r.Intn(g.Size), To: r.Intn(g.Size), Level: 1 + r.Intn(api.MaxLevel)}
		more, err := graph.With(g, e)
		if err != api.OK {
			continue
		}
		seeds := someSeeds(g, r)
		before, after := All(g, seeds), All(more, seeds)
		for key := range before {
			if before[key] >= 0 && (after[key] < 0 || after[key] > before[key]) {
				t.Errorf("from %v %v is at %v, with %v at %v", seeds, g, before, e, after)
			}
			if after[key] != before[key] {
				nearer++
			}
		}
	}
	if nearer < 100 {
		t.Errorf("only %d keys came nearer", nearer)
	}
}

// The consequence: the distances of the keys in order do not fall; each key is there once, and the way to it has as many edges.
func TestOrderDoesNotFall(t *testing.T) {
	r := rand.New(rand.NewSource(5))
	for range 500 {
		g := sample.Graph(r.Intn(20), r.Intn(40), r.Intn)
		seeds := someSeeds(g, r)
		distances, last, lastKey := All(g, seeds), 0, -1
		for _, key := range Order(g, seeds) {
			if distances[key] < last || distances[key] == last && key <= lastKey {
				t.Errorf("from %v %v is in the order %v, at %v", seeds, g, Order(g, seeds), distances)
			}
			if way, ok := Way(g, seeds, key); !ok || len(way) != distances[key]+1 {
				t.Errorf("from %v the way to %d of %v is %v, at %d", seeds, key, g, way, distances[key])
			}
			last, lastKey = distances[key], key
		}
	}
}
