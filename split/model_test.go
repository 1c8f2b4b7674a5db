package split

import (
	"math/rand"
	"slices"
	"testing"

	"trustflow/api"
	"trustflow/capacity"
	"trustflow/distance"
	"trustflow/graph"
	"trustflow/sample"
)

// areSinks reports whether l can be sinks: of any two of them the one behind is greater, and each is a key.
func areSinks(g api.Graph, l []int) bool {
	for i, key := range l {
		if key < 0 || key >= g.Size || slices.ContainsFunc(l[:i], func(before int) bool { return before >= key }) {
			return false
		}
	}
	return true
}

// model is the network of a graph, a policy and some sinks, by the distances, and by asking about each key and each pair of keys.
func model(g api.Graph, p api.Policy, sinks []int) api.Network {
	distances := distance.All(graph.Level(g, p.Level), p.Seeds)
	var from, through, to, along [][3]int
	for key, d := range distances {
		if d < 0 {
			continue
		}
		entry, exit := 2+2*key, 3+2*key
		through = append(through, [3]int{entry, exit, capacity.Of(p, d) - 1})
		if slices.Contains(p.Seeds, key) {
			from = append(from, [3]int{0, entry, capacity.Of(p, 0)})
		}
		if slices.Contains(sinks, key) {
			to = append(to, [3]int{entry, 1, 1})
		}
		for next := range g.Size {
			if slices.ContainsFunc(g.Edges, func(e api.Edge) bool { return e.From == key && e.To == next && e.Level >= p.Level }) {
				along = append(along, [3]int{exit, 2 + 2*next, 64})
			}
		}
	}
	return network(2+2*g.Size, slices.Concat(from, through, to, along)...)
}

// isValid asserts that a network is one in which flows are looked for (chapter 15): also of the greatest graph it is not too large.
func isValid(t *testing.T, n api.Network) {
	t.Helper()
	if n.Nodes < 2 || n.Nodes > 2+2*api.MaxKeys || len(n.Arcs) > api.MaxArcs {
		t.Errorf("there are %d nodes and %d arcs", n.Nodes, len(n.Arcs))
	}
	for _, a := range n.Arcs {
		if a.From < 0 || a.From >= n.Nodes || a.To < 0 || a.To >= n.Nodes || a.From == a.To || a.To == 0 || a.From == 1 || a.Cap < 0 || a.Cap > api.MaxBound {
			t.Errorf("%v is no arc of %v", a, n)
		}
	}
}

// someKeys are some keys of a graph, ascending.
func someKeys(size int, r *rand.Rand) []int {
	l := r.Perm(size)[:r.Intn(size+1)]
	slices.Sort(l)
	return l
}

// P14.1: random graphs, small and great, with random policies and sinks, against the definition.
func TestAgainstTheDefinition(t *testing.T) {
	r := rand.New(rand.NewSource(2))
	arcs, missing := 0, 0
	for i := range 12000 {
		g := sample.Graph(1+r.Intn(9), r.Intn(24), r.Intn)
		if i%40 == 0 {
			g = sample.Graph(30+r.Intn(api.MaxKeys-29), r.Intn(api.MaxEdges), r.Intn)
		}
		p, sinks := sample.Policy(g.Size, r.Intn), someKeys(g.Size, r)
		want := model(g, p, sinks)
		expect(t, g, p, sinks, want)
		isValid(t, want)
		arcs += len(want.Arcs)
		missing += len(p.Seeds) + g.Size + len(sinks) + len(g.Edges) - len(want.Arcs)
	}
	if arcs < 50000 || missing < 20000 {
		t.Errorf("the networks have only %d arcs, and only %d are missing", arcs, missing)
	}
}

// push adds a way from a node to the sink to a flow, if there is one, also backwards along arcs that have flow, and reports whether there is.
func push(n api.Network, f []int, seen []bool, node int) bool {
	if node == 1 {
		return true
	}
	seen[node] = true
	for i, a := range n.Arcs {
		if a.From == node && f[i] < a.Cap && !seen[a.To] && push(n, f, seen, a.To) {
			f[i]++
			return true
		}
		if a.To == node && f[i] > 0 && !seen[a.From] && push(n, f, seen, a.From) {
			f[i]--
			return true
		}
	}
	return false
}

// flow returns a flow of a network with at most a value, and its value.
func flow(n api.Network, most int) (f []int, value int) {
	f = make([]int, len(n.Arcs))
	for value < most && push(n, f, make([]bool, n.Nodes), 0) {
		value++
	}
	return f, value
}

// walk takes a way from the source to the sink out of a flow, and returns the keys whose entries it comes to.
func walk(n api.Network, f []int) []int {
	var keys []int
	for node := 0; node != 1; {
		i := 0
		for n.Arcs[i].From != node || f[i] == 0 {
			i++
		}
		f[i]--
		node = n.Arcs[i].To
		if node > 1 && node%2 == 0 {
			keys = append(keys, node/2-1)
		}
	}
	return keys
}

// The consequence: any integral flow, also one that is not the greatest, gives ways from seeds along edges of the level to as many different sinks as it has value; no key is on more of them than its capacity, and none that is the end of no way is on as many.
func TestFlowsGiveWays(t *testing.T) {
	r := rand.New(rand.NewSource(3))
	ways, inner := 0, 0
	for range 6000 {
		g := sample.Graph(1+r.Intn(9), r.Intn(30), r.Intn)
		p, sinks := sample.Policy(g.Size, r.Intn), someKeys(g.Size, r)
		n, err := Network(g, p, sinks)
		if err != api.OK {
			t.Fatalf("the error is %d", err)
		}
		trusted := graph.Level(g, p.Level)
		f, value := flow(n, r.Intn(12))
		uses, ends := make([]int, g.Size), map[int]bool{}
		for range value {
			way := walk(n, f)
			for i, key := range way {
				uses[key]++
				if i > 0 && !slices.Contains(graph.Out(trusted, way[i-1]), key) {
					t.Errorf("%v is no way in %v with %v", way, g, p)
				}
			}
			end := way[len(way)-1]
			if !slices.Contains(p.Seeds, way[0]) || !slices.Contains(sinks, end) || ends[end] {
				t.Errorf("%v is no way to one more of the sinks %v in %v with %v", way, sinks, g, p)
			}
			ends[end] = true
			ways, inner = ways+1, inner+len(way)-1
		}
		for key, capacity := range capacity.All(g, p) {
			if uses[key] > capacity || uses[key] == capacity && capacity > 0 && !ends[key] {
				t.Errorf("%d, with the capacity %d, is on %d ways in %v with %v to %v", key, capacity, uses[key], g, p, sinks)
			}
		}
	}
	if ways < 5000 || inner < 3000 {
		t.Errorf("there were only %d ways, with %d inner keys", ways, inner)
	}
}

// serves reports whether ways lead to all of some keys at a time: each key is the end of one, or is passed on to from a seed or from another key that has something left. It tries all ways, so the graphs are small.
func serves(g api.Graph, seeds, left, begins, keys []int) bool {
	if len(keys) == 0 {
		return true
	}
	return leads(g, seeds, left, begins, keys, []int{keys[0]})
}

// leads tries all ways that end with some keys, and for each one whether the other keys can be served as well.
func leads(g api.Graph, seeds, left, begins, keys, way []int) bool {
	head := way[0]
	if slices.Contains(seeds, head) && begins[head] > 0 {
		begins[head]--
		ok := serves(g, seeds, left, begins, keys[1:])
		begins[head]++
		if ok {
			return true
		}
	}
	for _, before := range graph.In(g, head) {
		if left[before] < 1 || slices.Contains(way, before) {
			continue
		}
		left[before]--
		ok := leads(g, seeds, left, begins, keys, append([]int{before}, way...))
		left[before]++
		if ok {
			return true
		}
	}
	return false
}

// P14.1: a flow whose value is the number of the sinks is there exactly if ways lead to all of them at a time, such that a key passes on one less than its capacity, and a seed begins as many as that.
func TestFlowsAreWays(t *testing.T) {
	r := rand.New(rand.NewSource(4))
	can := map[bool]int{}
	for range 3000 {
		g := sample.Graph(2+r.Intn(4), r.Intn(10), r.Intn)
		p, sinks := sample.Policy(g.Size, r.Intn), someKeys(g.Size, r)
		n, err := Network(g, p, sinks)
		if err != api.OK {
			t.Fatalf("the error is %d", err)
		}
		var left, begins []int
		for _, c := range capacity.All(g, p) {
			left, begins = append(left, c-1), append(begins, c)
		}
		_, value := flow(n, len(sinks)+1)
		want := serves(graph.Level(g, p.Level), p.Seeds, left, begins, sinks)
		if got := value == len(sinks); got != want {
			t.Errorf("that there are ways to %v in %v with %v is %t, but the greatest value is %d", sinks, g, p, want, value)
		}
		if len(sinks) > 1 {
			can[want]++
		}
	}
	if can[true] < 100 || can[false] < 100 {
		t.Errorf("there were too few of a kind: %v", can)
	}
}

// P3: of no keys more can be reached by a flow at a time than the bound says.
func TestBoundHolds(t *testing.T) {
	r := rand.New(rand.NewSource(5))
	exact := 0
	for range 3000 {
		g := sample.Graph(1+r.Intn(9), r.Intn(30), r.Intn)
		p, sinks := sample.Policy(g.Size, r.Intn), someKeys(g.Size, r)
		n, err := Network(g, p, sinks)
		if err != api.OK {
			t.Fatalf("the error is %d", err)
		}
		_, value := flow(n, len(sinks)+1)
		bound := capacity.Bound(g, p, sinks)
		if value > bound || value > len(sinks) {
			t.Errorf("to %v in %v with %v a flow has the value %d, but the bound is %d", sinks, g, p, value, bound)
		}
		if value == bound && value > 0 {
			exact++
		}
	}
	if exact < 150 {
		t.Errorf("the bound was exact only %d times", exact)
	}
}

// P14.1, and the document's examples 4 and 5: what can be reached at a time if a seed has too little capacity, and through a key that a ring has deceived.
func TestDocumentExamples(t *testing.T) {
	star := sample.Joined(3, [3]int{0, 1, 1}, [3]int{0, 2, 1})
	ring := [][3]int{{0, 1, 1}}
	for key := 2; key < 12; key++ {
		ring = append(ring, [3]int{1, key, 1}, [3]int{key, 2 + (key-1)%10, 1})
	}
	for _, c := range []struct {
		g     api.Graph
		p     api.Policy
		sinks []int
		value int
	}{
		{star, policy([]int{2}, 0), []int{0, 1}, 2},
		{star, policy([]int{2}, 0), []int{0, 1, 2}, 2},
		{star, policy([]int{3}, 0), []int{0, 1, 2}, 3},
		{sample.Joined(12, ring...), policy([]int{12, 4, 1}, 0), sample.Numbers(12)[2:], 3},
	} {
		n, err := Network(c.g, c.p, c.sinks)
		if err != api.OK {
			t.Fatalf("the error is %d", err)
		}
		if _, value := flow(n, api.MaxKeys); value != c.value {
			t.Errorf("to %v in %v with %v the greatest value is %d, want %d", c.sinks, c.g, c.p, value, c.value)
		}
	}
}
