package split

import (
	"math/rand"
	"slices"
	"testing"

	"trustflow/api"
	"trustflow/capacity"
	"trustflow/graph"
	"trustflow/sample"
)

// P14.1: the chapter's example.
func TestExample(t *testing.T) {
	const source, sink, entry0, exit0, entry1, exit1 = 0, 1, 2, 3, 4, 5
	expect(t, sample.Line(2), policy([]int{3, 2}, 0), []int{0, 1}, network(6,
		[3]int{source, entry0, 3},
		[3]int{entry0, exit0, 2}, [3]int{entry1, exit1, 1},
		[3]int{entry0, sink, 1}, [3]int{entry1, sink, 1},
		[3]int{exit0, entry1, 64}))
}

// P14.1: the entry and the exit of each key, one behind the other, all different, none of them the source or the sink.
func TestEntryAndExit(t *testing.T) {
	node := 2
	for key := range api.MaxKeys {
		if Entry(key) != node || Exit(key) != node+1 {
			t.Errorf("the nodes of %d are %d and %d, want %d and %d", key, Entry(key), Exit(key), node, node+1)
		}
		node += 2
	}
}

// P14.1: arcs lead to the seeds that are not gone, ascending, each with the capacity of a seed, also if edges lead to it.
func TestSeeds(t *testing.T) {
	g := sample.Leave(sample.Joined(6, [3]int{1, 4, 1}, [3]int{4, 5, 1}), 0, 3)
	expect(t, g, policy([]int{7}, 1, 4), nil, network(14,
		[3]int{0, 4, 7}, [3]int{0, 10, 7},
		[3]int{4, 5, 6}, [3]int{10, 11, 6}, [3]int{12, 13, 0},
		[3]int{5, 10, 64}, [3]int{11, 12, 64}))
	expect(t, g, policy([]int{9, 4, 2}, 0, 2, 3, 5), nil, network(14,
		[3]int{0, 6, 9}, [3]int{0, 12, 9},
		[3]int{6, 7, 8}, [3]int{12, 13, 8}))
	expect(t, api.Graph{Size: 3}, policy([]int{api.MaxCapacity}, 0, 1, 2), nil, network(8,
		[3]int{0, 2, 1000}, [3]int{0, 4, 1000}, [3]int{0, 6, 1000},
		[3]int{2, 3, 999}, [3]int{4, 5, 999}, [3]int{6, 7, 999}))
}

// P14.1: through each key that is reached leads an arc with its capacity less 1, also with nothing left, by number and not by distance.
func TestKeys(t *testing.T) {
	g := sample.Joined(7, [3]int{5, 3, 1}, [3]int{3, 0, 1}, [3]int{0, 4, 1}, [3]int{4, 1, 1}, [3]int{2, 6, 1})
	expect(t, g, policy([]int{8, 5, 2, 1}, 5), nil, network(16,
		[3]int{0, 12, 8},
		[3]int{2, 3, 1}, [3]int{4, 5, 0}, [3]int{8, 9, 4}, [3]int{10, 11, 0}, [3]int{12, 13, 7},
		[3]int{3, 10, 64}, [3]int{9, 2, 64}, [3]int{11, 4, 64}, [3]int{13, 8, 64}))
	// Beyond the table the capacity is 1, so that nothing is left there either.
	expect(t, sample.Line(4), policy([]int{3}, 1), nil, network(10,
		[3]int{0, 4, 3},
		[3]int{4, 5, 2}, [3]int{6, 7, 0}, [3]int{8, 9, 0},
		[3]int{5, 6, 64}, [3]int{7, 8, 64}))
}

// P14.1: arcs lead to the sink from the sinks that are reached, ascending; those that are not reached, or are gone, are no error.
func TestSinks(t *testing.T) {
	g, p := sample.Leave(sample.Joined(6, [3]int{1, 3, 1}, [3]int{3, 5, 1}, [3]int{2, 1, 1}), 0), policy([]int{4, 3, 2}, 0, 1)
	before := [][3]int{{0, 4, 4}, {4, 5, 3}, {8, 9, 2}, {12, 13, 1}}
	after := [][3]int{{5, 8, 64}, {9, 12, 64}}
	to := func(sinks ...[3]int) api.Network { return network(14, slices.Concat(before, sinks, after)...) }
	one, three, five := [3]int{4, 1, 1}, [3]int{8, 1, 1}, [3]int{12, 1, 1}
	for _, c := range []struct {
		sinks []int
		want  api.Network
	}{
		{nil, to()}, {[]int{}, to()}, {[]int{0}, to()}, {[]int{2}, to()}, {[]int{0, 2, 4}, to()},
		{[]int{1}, to(one)}, {[]int{3}, to(three)}, {[]int{5}, to(five)},
		{[]int{1, 5}, to(one, five)}, {[]int{0, 1, 2, 3}, to(one, three)}, {[]int{2, 3, 4, 5}, to(three, five)},
		{[]int{1, 3, 5}, to(one, three, five)}, {[]int{0, 1, 2, 3, 4, 5}, to(one, three, five)},
	} {
		expect(t, g, p, c.sinks, c.want)
	}
	if got, err := Network(g, p, nil); err != api.OK || !isNetwork(got, to()) {
		t.Errorf("without sinks the network is %v, error %d", got, err)
	}
}

// P14.1: each edge from a key that is reached has an arc, in the order of the graph: to keys that are nearer, as far and farther, and to seeds.
func TestEdges(t *testing.T) {
	g := sample.Joined(6, [3]int{2, 0, 1}, [3]int{0, 2, 1}, [3]int{0, 1, 1}, [3]int{1, 0, 1}, [3]int{1, 3, 1}, [3]int{2, 3, 1}, [3]int{3, 1, 1}, [3]int{3, 2, 1}, [3]int{4, 1, 1}, [3]int{4, 5, 1}, [3]int{5, 4, 1})
	expect(t, g, policy([]int{3, 2}, 1), []int{3}, network(14,
		[3]int{0, 4, 3},
		[3]int{2, 3, 1}, [3]int{4, 5, 2}, [3]int{6, 7, 0}, [3]int{8, 9, 1},
		[3]int{8, 1, 1},
		[3]int{3, 4, 64}, [3]int{3, 6, 64}, [3]int{5, 2, 64}, [3]int{5, 8, 64}, [3]int{7, 2, 64}, [3]int{7, 8, 64}, [3]int{9, 4, 64}, [3]int{9, 6, 64}))
}

// P14.1: edges of a lesser level than the policy's have no arcs, and reach nobody.
func TestLevels(t *testing.T) {
	g := sample.Joined(4, [3]int{0, 1, 1}, [3]int{0, 2, 2}, [3]int{2, 1, 3}, [3]int{1, 3, 2}, [3]int{0, 3, 3}, [3]int{3, 0, 1})
	p := policy([]int{9, 6, 4, 3}, 0)
	expect(t, g, at(p, 1), []int{1, 3}, network(10,
		[3]int{0, 2, 9},
		[3]int{2, 3, 8}, [3]int{4, 5, 5}, [3]int{6, 7, 5}, [3]int{8, 9, 5},
		[3]int{4, 1, 1}, [3]int{8, 1, 1},
		[3]int{3, 4, 64}, [3]int{3, 6, 64}, [3]int{3, 8, 64}, [3]int{5, 8, 64}, [3]int{7, 4, 64}, [3]int{9, 2, 64}))
	expect(t, g, at(p, 2), []int{1, 3}, network(10,
		[3]int{0, 2, 9},
		[3]int{2, 3, 8}, [3]int{4, 5, 3}, [3]int{6, 7, 5}, [3]int{8, 9, 5},
		[3]int{4, 1, 1}, [3]int{8, 1, 1},
		[3]int{3, 6, 64}, [3]int{3, 8, 64}, [3]int{5, 8, 64}, [3]int{7, 4, 64}))
	expect(t, g, at(p, 3), []int{1, 3}, network(10,
		[3]int{0, 2, 9},
		[3]int{2, 3, 8}, [3]int{8, 9, 5},
		[3]int{8, 1, 1},
		[3]int{3, 8, 64}))
}

// P14.1: with all seeds gone nothing is reached: the nodes are there, without arcs.
func TestNothingReached(t *testing.T) {
	g := sample.Leave(sample.Joined(4, [3]int{1, 2, 1}, [3]int{2, 1, 1}), 0, 3)
	expect(t, g, policy([]int{5, 4}, 0), []int{0, 1, 2, 3}, network(10))
	expect(t, g, policy([]int{5, 4}, 0, 3), nil, network(10))
}

// P14.1: one key, and as many keys, seeds, sinks and edges as there can be.
func TestSizes(t *testing.T) {
	one := policy([]int{1}, 0)
	expect(t, api.Graph{Size: 1}, one, nil, network(4, [3]int{0, 2, 1}, [3]int{2, 3, 0}))
	expect(t, api.Graph{Size: 1}, one, []int{0}, network(4, [3]int{0, 2, 1}, [3]int{2, 3, 0}, [3]int{2, 1, 1}))
	expect(t, sample.Leave(api.Graph{Size: 1}, 0), one, []int{0}, network(4))
	all := sample.Numbers(api.MaxKeys)
	g, p := api.Graph{Size: api.MaxKeys, Edges: sample.Edges(api.MaxEdges, 3)}, policy([]int{api.MaxCapacity}, all...)
	n, err := Network(g, p, all)
	if err != api.OK || n.Nodes != 2+2*api.MaxKeys || len(n.Arcs) != 3*api.MaxKeys+api.MaxEdges {
		t.Fatalf("the network has %d nodes and %d arcs, error %d", n.Nodes, len(n.Arcs), err)
	}
	for i, want := range map[int]api.Arc{
		0: {From: 0, To: 2, Cap: 1000}, 63: {From: 0, To: 128, Cap: 1000},
		64: {From: 2, To: 3, Cap: 999}, 127: {From: 128, To: 129, Cap: 999},
		128: {From: 2, To: 1, Cap: 1}, 191: {From: 128, To: 1, Cap: 1},
		192: {From: 3, To: 4, Cap: 64}, 254: {From: 3, To: 128, Cap: 64}, 255: {From: 5, To: 2, Cap: 64},
	} {
		if n.Arcs[i] != want {
			t.Errorf("the arc %d is %v, want %v", i, n.Arcs[i], want)
		}
	}
	isValid(t, n)
}

// P14.1: a graph that is not valid comes first, whatever the policy and the sinks are.
func TestNoGraph(t *testing.T) {
	for name, g := range sample.WildGraphs() {
		for _, sinks := range [][]int{nil, {0}, {1, 0}, {-1}} {
			expectNot(t, name, g, policy([]int{3, 2}, 0), sinks, api.ErrGraph)
			expectNot(t, name, g, api.Policy{}, sinks, api.ErrGraph)
		}
	}
}

// P14.1: then comes a policy that is not valid for the graph, whatever the sinks are.
func TestNoPolicy(t *testing.T) {
	for name, p := range sample.WildPolicies() {
		for _, sinks := range [][]int{nil, {0}, {1, 0}, {2, 2}, {-1}, {4}} {
			expectNot(t, name, sample.Line(4), p, sinks, api.ErrPolicy)
		}
	}
	expectNot(t, "no keys", api.Graph{}, policy([]int{1}, 0), nil, api.ErrPolicy)
	expectNot(t, "seeds of a greater graph", api.Graph{Size: 3}, policy([]int{1}, 3), []int{3}, api.ErrPolicy)
}

// P14.1: then come sinks that are no keys, or are not strictly ascending.
func TestNoSinks(t *testing.T) {
	g, p := sample.Leave(sample.Joined(4, [3]int{0, 1, 1}, [3]int{1, 2, 1}), 3), policy([]int{3, 2}, 0)
	for name, sinks := range map[string][]int{
		"a key twice":          {1, 1},
		"the last key twice":   {0, 1, 2, 2},
		"the first key twice":  {0, 0, 1},
		"a gone key twice":     {3, 3},
		"keys that fall":       {1, 0},
		"only the last fall":   {0, 2, 1},
		"only the first fall":  {1, 0, 2},
		"a key below 0":        {-1},
		"a key below 0, first": {-1, 0, 1},
		"a key that is none":   {4},
		"the last key is none": {0, 1, 2, 3, 4},
		"more than keys":       {0, 1, 2, 3, 3},
	} {
		expectNot(t, name, g, p, sinks, api.ErrKey)
	}
	for _, n := range far {
		if n < 0 || n > 3 {
			expectNot(t, "far", g, p, []int{n}, api.ErrKey)
		}
	}
	expectNot(t, "all keys and one more", api.Graph{Size: api.MaxKeys}, p, sample.Numbers(api.MaxKeys+1), api.ErrKey)
	expect(t, g, p, []int{0, 1, 2, 3}, model(g, p, []int{0, 1, 2, 3}))
}

// R1, R2: each call returns the same, whatever others were asked in between.
func TestAgain(t *testing.T) {
	for range 3 {
		expect(t, sample.Line(2), policy([]int{4}, 0), []int{1}, network(6, [3]int{0, 2, 4}, [3]int{2, 3, 3}, [3]int{4, 5, 0}, [3]int{4, 1, 1}, [3]int{3, 4, 64}))
		expect(t, sample.Line(2), policy([]int{4}, 1), nil, network(6, [3]int{0, 4, 4}, [3]int{4, 5, 3}))
		expectNot(t, "again", sample.Line(2), policy([]int{4}, 1), []int{2}, api.ErrKey)
	}
}

// P1: all functions come to an end, whatever the arguments are; without an error there is a network, with one there is none.
func TestAnyArguments(t *testing.T) {
	r := rand.New(rand.NewSource(1))
	number := func() int {
		if r.Intn(6) == 0 {
			return far[r.Intn(len(far))]
		}
		return r.Intn(6) - 1
	}
	numbers := func(n int) (l []int) {
		for range r.Intn(n) {
			l = append(l, number())
		}
		return l
	}
	for _, key := range far {
		if Entry(key)+1 != Exit(key) {
			t.Errorf("the nodes of %d are %d and %d", key, Entry(key), Exit(key))
		}
	}
	errs := map[api.Errno]int{}
	for i := range 20000 {
		g, p, sinks := api.Graph{Size: number(), Gone: numbers(3)}, api.Policy{Seeds: numbers(4), Table: numbers(4), Level: number()}, numbers(4)
		for range r.Intn(4) {
			g.Edges = append(g.Edges, api.Edge{From: number(), To: number(), Level: number()})
		}
		if i%2 == 0 {
			g = sample.Graph(1+r.Intn(5), r.Intn(9), r.Intn)
		}
		if i%4 == 0 {
			p = sample.Policy(g.Size, r.Intn)
		}
		err := capacity.Check(g, p)
		if err == api.OK && !areSinks(g, sinks) {
			err = api.ErrKey
		}
		errs[err]++
		if err != api.OK {
			expectNot(t, "any arguments", g, p, sinks, err)
		} else {
			expect(t, g, p, sinks, model(g, p, sinks))
		}
	}
	for _, err := range []api.Errno{api.OK, api.ErrGraph, api.ErrPolicy, api.ErrKey} {
		if errs[err] < 500 {
			t.Errorf("the error %d was there only %d times", err, errs[err])
		}
	}
	expectNot(t, "sinks in millions", sample.Line(4), policy([]int{3}, 0), slices.Repeat([]int{1}, 1<<20), api.ErrKey)
}

// P14.1: of the graph of statements, from a vouch until it has ended, as in the document's examples 1 and 2.
func TestOfStatements(t *testing.T) {
	l := sample.Write(0, sample.Vouch(3, 1, 3, 50))
	for time, arcs := range map[int]int{2: 3, 3: 6, 49: 6, 50: 3} {
		g, err := graph.At(l, time, 1)
		if err != api.OK {
			t.Fatalf("the error is %d", err)
		}
		n, err := Network(g, policy([]int{5, 3, 2}, 0), []int{0, 1})
		if err != api.OK || n.Nodes != 2+2*api.MaxKeys || len(n.Arcs) != arcs {
			t.Errorf("at %d the network is %v, error %d", time, n, err)
		}
	}
}
