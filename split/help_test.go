package split

import (
	"math"
	"slices"
	"testing"

	"trustflow/api"
	"trustflow/capacity"
	"trustflow/sample"
)

// far are numbers at the ends of what an int can be, and about some bounds.
var far = []int{math.MinInt, math.MinInt + 1, -1 << 40, -2, -1, 0, 1, api.MaxLevel, api.MaxTable, api.MaxKeys - 1, api.MaxKeys, api.MaxCapacity, 1 << 40, math.MaxInt - 1, math.MaxInt}

// policy is a policy of level 1 with a table and some seeds.
func policy(table []int, seeds ...int) api.Policy {
	return api.Policy{Seeds: seeds, Table: table, Level: 1}
}

// at is p at another level.
func at(p api.Policy, level int) api.Policy {
	p.Level = level
	return p
}

// network is a network with so many nodes and arcs, each one given by its ends and its capacity.
func network(nodes int, arcs ...[3]int) api.Network {
	n := api.Network{Nodes: nodes}
	for _, a := range arcs {
		n.Arcs = append(n.Arcs, api.Arc{From: a[0], To: a[1], Cap: a[2]})
	}
	return n
}

// isNetwork reports whether two networks are equal, arc by arc.
func isNetwork(a, b api.Network) bool {
	return a.Nodes == b.Nodes && slices.EqualFunc(a.Arcs, b.Arcs, func(x, y api.Arc) bool {
		return x.From == y.From && x.To == y.To && x.Cap == y.Cap
	})
}

// kept calls a function of a graph, a policy and sinks, and asserts that it changes none of these.
func kept(t *testing.T, g api.Graph, p api.Policy, sinks []int, f func(g api.Graph, p api.Policy, sinks []int)) {
	t.Helper()
	if !sample.KeepsAll(g, p, sinks, f) {
		t.Errorf("%v, %v or %v has been changed", g, p, sinks)
	}
}

// expect asserts the network of a graph, a policy that is valid for it, and some sinks.
func expect(t *testing.T, g api.Graph, p api.Policy, sinks []int, want api.Network) {
	t.Helper()
	if err := capacity.Check(g, p); err != api.OK {
		t.Fatalf("the error of %v with %v is %d", g, p, err)
	}
	kept(t, g, p, sinks, func(g api.Graph, p api.Policy, sinks []int) {
		if got, err := Network(g, p, sinks); err != api.OK || !isNetwork(got, want) {
			t.Errorf("the network of %v with %v to %v is %v, error %d, want %v", g, p, sinks, got, err, want)
		}
	})
}

// expectNot asserts the error that there is instead of a network.
func expectNot(t *testing.T, name string, g api.Graph, p api.Policy, sinks []int, want api.Errno) {
	t.Helper()
	kept(t, g, p, sinks, func(g api.Graph, p api.Policy, sinks []int) {
		if got, err := Network(g, p, sinks); err != want || !isNetwork(got, api.Network{}) {
			t.Errorf("%s: the network of %v with %v to %v is %v, error %d, want the error %d", name, g, p, sinks, got, err, want)
		}
	})
}
