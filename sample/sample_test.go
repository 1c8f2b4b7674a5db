package sample

import (
	"math/rand"
	"slices"
	"testing"

	"trustflow/api"
	"trustflow/capacity"
	"trustflow/chain"
	"trustflow/fork"
	"trustflow/graph"
	"trustflow/statement"
	"trustflow/store"
)

// What other tests rest on: rows count to their end, what is after something follows it, what was only said does not.
func TestStatements(t *testing.T) {
	l := Row(5, 4)
	next := After(l[3], api.KindOther, 7)
	if len(chain.Counted(5, l)) != 4 || !chain.Follows(l[3], next) || chain.Follows(l[3], Said(5, 4, 7)) {
		t.Errorf("%s are no rows and what follows", Brief(append(l, next)))
	}
}

// Stores are valid, whatever the order of what they are made of, and have each statement once.
func TestStores(t *testing.T) {
	l := Row(5, 4)
	s := Store(l[2:], Row(3, 2), l, []api.Statement{Said(5, 1, 9), Said(63, 0, 1), Said(5, 1, 8)})
	if !store.Valid(s) || len(s.Statements) != 9 {
		t.Errorf("%s is no store of 9 statements", Brief(s.Statements))
	}
}

// Trees have forks, resignations, gaps and beginnings that are missing, and parts of them are different valid stores.
func TestTrees(t *testing.T) {
	r := rand.New(rand.NewSource(1))
	forks, loose, different := 0, 0, 0
	for range 100 {
		all := Tree(9, r.Intn)
		a, b := Part(r.Intn, all), Part(r.Intn, all)
		if !store.Valid(Store(all)) || !store.Valid(a) || !store.Valid(b) {
			t.Fatalf("a part of %s is no store", Brief(all))
		}
		forks += len(fork.Find(a))
		loose += len(a.Statements) - len(store.Counted(a))
		if !slices.EqualFunc(a.Statements, b.Statements, statement.Same) {
			different++
		}
	}
	if forks < 20 || loose < 50 || different < 90 {
		t.Errorf("the parts show too little: %d forks, %d statements that do not count, %d pairs that are different", forks, loose, different)
	}
}

// No wild store is valid.
func TestWildStores(t *testing.T) {
	for name, s := range WildStores() {
		if store.Valid(s) {
			t.Errorf("%s: the store is valid", name)
		}
	}
}

// Lives count as a whole, and show vouches, some of them for the same key again, revocations and resignations.
func TestLives(t *testing.T) {
	r := rand.New(rand.NewSource(2))
	kinds := map[int]int{}
	again := 0
	for range 100 {
		all := Lives(5, r.Intn)
		if !slices.EqualFunc(store.Counted(Store(all)), all, statement.Same) {
			t.Fatalf("not all of %s counts", Brief(all))
		}
		keys := map[[2]int]bool{}
		for _, s := range all {
			kinds[s.Kind]++
			p := [2]int{s.Author, s.A}
			if s.Kind != api.KindVouch {
				continue
			}
			if keys[p] {
				again++
			}
			keys[p] = true
		}
	}
	for kind, least := range map[int]int{api.KindVouch: 500, api.KindRevoke: 200, api.KindResign: 50, api.KindOther: 200} {
		if kinds[kind] < least {
			t.Errorf("there are only %d statements of the kind %d", kinds[kind], kind)
		}
	}
	if again < 100 {
		t.Errorf("only %d vouches are for the same key again", again)
	}
}

// What is written is sealed and follows one another, also past a resignation.
func TestWrite(t *testing.T) {
	l := Write(7, Vouch(3, 5, 2, 9), Resign(4), Other(4, 5, 2, 9), Revoke(6, 0))
	b, ok := chain.Branch(7, l, l[3].Seal.Digest)
	if !ok || !slices.EqualFunc(b, l, statement.Same) || len(chain.Counted(7, l)) != 2 {
		t.Errorf("%s is not one branch, of which two statements count", Brief(l))
	}
}

// With other faces a store is valid; of these authors at most the first statement counts, if it is the same; what was pinned is there.
func TestFaces(t *testing.T) {
	r := rand.New(rand.NewSource(4))
	for range 20 {
		s := Store(Lives(6, r.Intn))
		f := Faces(s, 5)
		if !store.Valid(f) || store.Height(f, 5) != store.Height(s, 5) {
			t.Errorf("%s are not faces of %s", Brief(f.Statements), Brief(s.Statements))
		}
		for author := range 5 {
			if store.Height(f, author) > 1 {
				t.Errorf("of %d in %s too much counts", author, Brief(f.Statements))
			}
		}
		if l, err := store.Pinned(f, store.Pins(s)); err != api.OK || !slices.EqualFunc(l, s.Statements, statement.Same) {
			t.Errorf("%s are pinned, error %d, in %s", Brief(l), err, Brief(s.Statements))
		}
	}
}

// Graphs are valid and show edges at all levels, in both directions between two keys, and keys that are gone; of no keys there is one graph.
func TestGraphs(t *testing.T) {
	r := rand.New(rand.NewSource(3))
	levels, back, gone := map[int]int{}, 0, 0
	for range 200 {
		g := Graph(r.Intn(10), r.Intn(30), r.Intn)
		if graph.Check(g) != api.OK {
			t.Fatalf("%v is not valid", g)
		}
		gone += len(g.Gone)
		for _, e := range g.Edges {
			levels[e.Level]++
			if slices.Contains(graph.Out(g, e.To), e.From) {
				back++
			}
		}
	}
	for level := 1; level <= api.MaxLevel; level++ {
		if levels[level] < 300 || back < 300 || gone < 80 {
			t.Errorf("the graphs show too little: %v, %d edges and back, %d gone", levels, back, gone)
		}
	}
	if !graph.Same(Graph(0, 9, r.Intn), api.Graph{}) {
		t.Errorf("a graph of no keys has edges")
	}
}

// As many edges as are asked for are there, up to as many as a graph can have.
func TestEdges(t *testing.T) {
	for _, n := range []int{0, 1, 63, 64, 127, api.MaxEdges} {
		g := api.Graph{Size: api.MaxKeys, Edges: Edges(n, 2)}
		if graph.Check(g) != api.OK || len(g.Edges) != n {
			t.Errorf("%v is no graph with %d edges", g, n)
		}
	}
}

// No wild graph is valid.
func TestWildGraphs(t *testing.T) {
	for name, g := range WildGraphs() {
		if graph.Check(g) != api.ErrGraph {
			t.Errorf("%s: the graph is valid", name)
		}
	}
}

// What changes an element of a graph, or what stands behind its lists, does not keep it; what changes its own lists alone does, and gets the graph itself.
func TestKeeps(t *testing.T) {
	g := api.Graph{Size: 4, Edges: Edges(2, 1), Gone: []int{3}}
	for name, change := range map[string]func(g api.Graph){
		"an edge":         func(g api.Graph) { g.Edges[1].Level = 2 },
		"a gone key":      func(g api.Graph) { g.Gone[0] = 2 },
		"behind the list": func(g api.Graph) { _ = append(g.Edges, api.Edge{}) },
		"behind the keys": func(g api.Graph) { _ = append(g.Gone, 4) },
	} {
		if Keeps(g, change) {
			t.Errorf("%s: the change was not noticed", name)
		}
	}
	same := false
	if !Keeps(g, func(h api.Graph) {
		same = graph.Same(g, h)
		h.Edges, h.Gone, h.Size = nil, nil, 0
	}) || !same {
		t.Errorf("%v was changed, or was another one", g)
	}
	if !graph.Same(g, api.Graph{Size: 4, Edges: Edges(2, 1), Gone: []int{3}}) {
		t.Errorf("%v itself has been changed", g)
	}
}

// What is joined is a valid graph, whatever the order of its edges; a line is a graph in which each key has the next one.
func TestJoined(t *testing.T) {
	g := Joined(4, [3]int{2, 0, 3}, [3]int{0, 3, 1}, [3]int{0, 1, 2})
	if graph.Check(g) != api.OK || !graph.Same(g, api.Graph{Size: 4, Edges: []api.Edge{{From: 0, To: 1, Level: 2}, {From: 0, To: 3, Level: 1}, {From: 2, To: 0, Level: 3}}}) {
		t.Errorf("%v is joined", g)
	}
	if !graph.Same(Line(3), Joined(3, [3]int{0, 1, 1}, [3]int{1, 2, 1})) || !graph.Same(Line(0), Joined(0)) {
		t.Errorf("%v and %v are lines", Line(3), Line(0))
	}
}

// Policies are valid and show one seed and several, short and long tables, and all levels.
func TestPolicies(t *testing.T) {
	r := rand.New(rand.NewSource(5))
	seeds, lengths, levels, first := map[int]int{}, map[int]int{}, map[int]int{}, map[int]int{}
	for range 1000 {
		size := 1 + r.Intn(10)
		p := Policy(size, r.Intn)
		if capacity.Check(api.Graph{Size: size}, p) != api.OK {
			t.Fatalf("%v is not valid for %d keys", p, size)
		}
		seeds[len(p.Seeds)]++
		lengths[len(p.Table)]++
		levels[p.Level]++
		first[p.Table[0]]++
	}
	for n := 1; n <= 3; n++ {
		if seeds[n] < 50 || levels[n] < 200 || first[n] < 50 {
			t.Errorf("the policies show too little: %v, %v, %v", seeds, levels, first)
		}
	}
	for length := 1; length <= api.MaxTable; length++ {
		if lengths[length] < 50 {
			t.Errorf("only %d tables have the length %d", lengths[length], length)
		}
	}
}

// No wild policy is valid for graphs of 4 keys.
func TestWildPolicies(t *testing.T) {
	for name, p := range WildPolicies() {
		if capacity.Check(api.Graph{Size: 4}, p) != api.ErrPolicy {
			t.Errorf("%s: the policy is valid", name)
		}
	}
}

// What changes a number, or what stands behind numbers, does not keep them; what changes its own list alone does, and gets the same ones.
func TestKeepsNumbers(t *testing.T) {
	p := api.Policy{Seeds: Numbers(2), Table: []int{3, 2}, Level: 3}
	for name, change := range map[string]func(l []int){
		"a number":        func(l []int) { l[1] = 0 },
		"behind the list": func(l []int) { _ = append(l, 2) },
	} {
		if KeepsNumbers(p.Seeds, change) {
			t.Errorf("%s: the change was not noticed", name)
		}
		if KeepsPolicy(p, func(p api.Policy) { change(p.Seeds) }) || KeepsPolicy(p, func(p api.Policy) { change(p.Table) }) {
			t.Errorf("%s: the change of a policy was not noticed", name)
		}
	}
	same := false
	if !KeepsPolicy(p, func(q api.Policy) {
		same = slices.Equal(p.Seeds, q.Seeds) && slices.Equal(p.Table, q.Table) && p.Level == q.Level
		q.Seeds, q.Table, q.Level = nil, nil, 0
	}) || !same {
		t.Errorf("%v was changed, or was another one", p)
	}
	if !slices.Equal(p.Seeds, []int{0, 1}) || !slices.Equal(p.Table, []int{3, 2}) {
		t.Errorf("%v itself has been changed", p)
	}
}

// Who leaves is gone, whatever edges there are, and the graph itself stays as it was.
func TestLeave(t *testing.T) {
	g := Line(3)
	h := Leave(g, 1, 2)
	if h.Size != 3 || !slices.Equal(h.Edges, g.Edges) || !slices.Equal(h.Gone, []int{1, 2}) || len(g.Gone) != 0 {
		t.Errorf("with keys that are gone %v is %v", g, h)
	}
}

// What changes a graph, a policy or numbers does not keep them all; what changes nothing does, and gets what it was called with.
func TestKeepsAll(t *testing.T) {
	g, p, l := Line(3), api.Policy{Seeds: []int{2}, Table: []int{4}, Level: 2}, []int{5}
	for name, change := range map[string]func(g api.Graph, p api.Policy, l []int){
		"the graph":   func(g api.Graph, _ api.Policy, _ []int) { g.Edges[0].To = 2 },
		"the policy":  func(_ api.Graph, p api.Policy, _ []int) { p.Table[0] = 3 },
		"the numbers": func(_ api.Graph, _ api.Policy, l []int) { l[0] = 6 },
	} {
		if KeepsAll(g, p, l, change) {
			t.Errorf("%s: the change was not noticed", name)
		}
	}
	same := false
	if !KeepsAll(g, p, l, func(h api.Graph, q api.Policy, m []int) {
		same = graph.Same(g, h) && slices.Equal(p.Seeds, q.Seeds) && slices.Equal(p.Table, q.Table) && p.Level == q.Level && slices.Equal(l, m)
	}) || !same {
		t.Errorf("%v, %v or %v was changed, or was another one", g, p, l)
	}
}
