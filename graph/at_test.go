package graph

import (
	"math"
	"math/rand"
	"slices"
	"testing"

	"trustflow/api"
	"trustflow/epoch"
	"trustflow/sample"
	"trustflow/store"
	"trustflow/vouch"
)

// at is a graph that At returns, with some edges and keys that are gone.
func at(gone []int, l ...api.Edge) api.Graph {
	return api.Graph{Size: api.MaxKeys, Edges: l, Gone: gone}
}

// P11.1: a vouch is an edge from its time on, until its end, as in the document's examples 1 and 2.
func TestAt(t *testing.T) {
	l := counted(t, sample.Write(0, sample.Vouch(3, 1, 1, 50)))
	for time, want := range map[int]api.Graph{
		math.MinInt: at(nil),
		2:           at(nil),
		3:           at(nil, edge(0, 1, 1)),
		5:           at(nil, edge(0, 1, 1)),
		49:          at(nil, edge(0, 1, 1)),
		50:          at(nil),
		math.MaxInt: at(nil),
	} {
		expectAt(t, l, time, 1, want)
		expectAt(t, l, time, 2, at(nil))
		expectAt(t, nil, time, 1, at(nil))
	}
}

// P11.1: the edges are by From, then by To, as numbers, whatever the order of the vouches is; each has its own level, and those of a lesser one are left out.
func TestAtLevels(t *testing.T) {
	l := counted(t,
		sample.Write(0, sample.Vouch(1, 63, 2, 9), sample.Vouch(1, 10, 1, 9), sample.Vouch(1, 9, 3, 9)),
		sample.Write(10, sample.Vouch(1, 0, 2, 9)),
		sample.Write(9, sample.Other(0, 2, 3, 9), sample.Vouch(1, 10, 3, 9), sample.Vouch(1, 0, 1, 9)),
		sample.Write(63, sample.Vouch(1, 62, 1, 9)),
	)
	a, b, c := edge(0, 9, 3), edge(0, 10, 1), edge(0, 63, 2)
	d, e, f, g := edge(9, 0, 1), edge(9, 10, 3), edge(10, 0, 2), edge(63, 62, 1)
	expectAt(t, l, 5, 1, at(nil, a, b, c, d, e, f, g))
	expectAt(t, l, 5, 2, at(nil, a, c, e, f))
	expectAt(t, l, 5, 3, at(nil, a, e))
}

// P11.1: what was given again counts at its new level alone, also if this is less; what was revoked, or has ended, does not come back.
func TestAtGivenAgain(t *testing.T) {
	l := counted(t, sample.Write(1,
		sample.Vouch(1, 2, 3, 30), sample.Vouch(1, 5, 1, 30), sample.Vouch(1, 4, 3, 30), // the numbers 0 to 2
		sample.Vouch(6, 2, 1, 30), sample.Vouch(6, 5, 3, 30), sample.Vouch(6, 4, 3, 9), // the numbers 3 to 5
		sample.Revoke(12, 4)))
	for _, c := range []struct {
		time, level int
		edges       []api.Edge
	}{
		{5, 1, []api.Edge{edge(1, 2, 3), edge(1, 4, 3), edge(1, 5, 1)}},
		{5, 2, []api.Edge{edge(1, 2, 3), edge(1, 4, 3)}},
		{6, 1, []api.Edge{edge(1, 2, 1), edge(1, 4, 3), edge(1, 5, 3)}},
		{6, 2, []api.Edge{edge(1, 4, 3), edge(1, 5, 3)}},
		{8, 3, []api.Edge{edge(1, 4, 3), edge(1, 5, 3)}},
		{9, 3, []api.Edge{edge(1, 5, 3)}},
		{11, 1, []api.Edge{edge(1, 2, 1), edge(1, 5, 3)}},
		{12, 1, []api.Edge{edge(1, 2, 1)}},
		{12, 2, nil},
		{30, 1, nil},
	} {
		expectAt(t, l, c.time, c.level, at(nil, c.edges...))
	}
}

// P11.1: keys that have left are gone from then on, also those that nobody vouches for, and have no edges; at all levels.
func TestAtGone(t *testing.T) {
	l := counted(t,
		sample.Write(0, sample.Vouch(1, 9, 1, 30), sample.Vouch(1, 40, 2, 30)),
		sample.Write(9, sample.Vouch(1, 0, 1, 30), sample.Resign(5)),
		sample.Write(40, sample.Vouch(1, 9, 3, 30), sample.Vouch(1, 0, 3, 30), sample.Resign(8)),
		sample.Write(63, sample.Resign(6)),
		sample.Write(2, sample.Resign(0)),
	)
	a, b, c, d, e := edge(0, 9, 1), edge(0, 40, 2), edge(9, 0, 1), edge(40, 0, 3), edge(40, 9, 3)
	for _, x := range []struct {
		time, level int
		want        api.Graph
	}{
		{-1, 1, at(nil)},
		{0, 1, at([]int{2})},
		{4, 1, at([]int{2}, a, b, c, d, e)},
		{4, 2, at([]int{2}, b, d, e)},
		{5, 1, at([]int{2, 9}, b, d)},
		{6, 3, at([]int{2, 9, 63}, d)},
		{7, 1, at([]int{2, 9, 63}, b, d)},
		{8, 1, at([]int{2, 9, 40, 63})},
		{8, 3, at([]int{2, 9, 40, 63})},
		{math.MaxInt, 1, at([]int{2, 9, 40, 63})},
	} {
		expectAt(t, l, x.time, x.level, x.want)
	}
}

// crowd is what counts of authors who vouch, from time 5 until 20, for one another: so many times at each level, from 1 on, each time for another pair of keys.
func crowd(t *testing.T, atLevel ...int) []api.Statement {
	rows := make([][]api.Statement, api.MaxKeys)
	pairs := sample.Edges(2*api.MaxEdges, 1)
	for i, n := range atLevel {
		for _, e := range pairs[:n] {
			rows[e.From] = append(rows[e.From], sample.Vouch(5, e.To, 1+i, 20))
		}
		pairs = pairs[n:]
	}
	for author, drafts := range rows {
		rows[author] = sample.Write(author, drafts...)
	}
	return counted(t, rows...)
}

// P11.1: no more edges than a graph has; only those of the level count for this, and only those at the time.
func TestAtLimit(t *testing.T) {
	l := crowd(t, api.MaxEdges)
	expectAt(t, l, 5, 1, full(api.MaxEdges))
	expectAt(t, l, 5, 2, at(nil))
	l = crowd(t, api.MaxEdges+1)
	expectNotAt(t, l, 5, 1, api.ErrLimit)
	expectNotAt(t, l, 19, 1, api.ErrLimit)
	for _, time := range []int{4, 20} {
		expectAt(t, l, time, 1, at(nil))
	}
	expectAt(t, l, 5, 2, at(nil))
	l = crowd(t, 1, api.MaxEdges-1, 1)
	expectNotAt(t, l, 5, 1, api.ErrLimit)
	if g, err := At(l, 5, 2); err != api.OK || len(g.Edges) != api.MaxEdges {
		t.Errorf("%d edges are left, error %d", len(g.Edges), err)
	}
	expectNotAt(t, crowd(t, 0, 0, 900), 5, 3, api.ErrLimit)
}

// P11.1: who has left makes room: edges that are no more are not counted.
func TestAtLimitAndGone(t *testing.T) {
	l := crowd(t, api.MaxEdges+7)
	last := l[len(l)-1]
	resign := sample.After(last, api.KindResign, 0)
	l = counted(t, l, []api.Statement{resign})
	expectNotAt(t, l, resign.Time-1, 1, api.ErrLimit)
	g, err := At(l, resign.Time, 1)
	if err != api.OK || len(g.Edges) > api.MaxEdges || !slices.Equal(g.Gone, []int{last.Author}) {
		t.Errorf("the graph is %v, error %d", g, err)
	}
}

// P11.1: a level that there is not comes before everything else.
func TestAtRange(t *testing.T) {
	many := crowd(t, 0, 0, api.MaxEdges+1)
	some := counted(t, sample.Write(0, sample.Vouch(3, 1, 3, 50)))
	for _, level := range outside {
		expectNotAt(t, nil, 5, level, api.ErrRange)
		expectNotAt(t, some, 5, level, api.ErrRange)
		expectNotAt(t, many, 5, level, api.ErrRange)
		expectNotAt(t, some, -1, level, api.ErrRange)
	}
	for level := 1; level <= api.MaxLevel; level++ {
		expectAt(t, some, 5, level, at(nil, edge(0, 1, 3)))
	}
}

// modelAt is the graph of a list, by asking for each pair of keys.
func modelAt(l []api.Statement, keys, time, level int) api.Graph {
	g := at(vouch.Gone(l, time))
	for from := range keys {
		for to := range keys {
			if v, ok := vouch.Between(l, from, to, time); ok && v.Level >= level {
				g.Edges = append(g.Edges, edge(from, to, v.Level))
			}
		}
	}
	return g
}

// P11.1 and the consequence: the graphs of what counts of random authors, at all times and levels, against their definition; that of a higher level is what is left of that of a lower one.
func TestAtAgainstTheDefinition(t *testing.T) {
	r := rand.New(rand.NewSource(1))
	edges, gone := 0, 0
	for range 100 {
		keys := 2 + r.Intn(5)
		l := sample.Lives(keys, r.Intn)
		times := []int{math.MinInt, -1, api.MaxTime, math.MaxInt}
		for time := range epoch.Latest(l) + 11 {
			times = append(times, time)
		}
		for _, time := range times {
			for level := 1; level <= api.MaxLevel; level++ {
				want := modelAt(l, keys, time, level)
				expectAt(t, l, time, level, want)
				edges, gone = edges+len(want.Edges), gone+len(want.Gone)
				for higher := level; higher <= api.MaxLevel; higher++ {
					expectAt(t, l, time, higher, Level(want, higher))
				}
			}
		}
	}
	if edges < 2000 || gone < 500 {
		t.Errorf("the graphs have only %d edges, and %d keys are gone", edges, gone)
	}
}

// P5: members with the same statements compute the same graph, in whichever order these came.
func TestSameStatements(t *testing.T) {
	r := rand.New(rand.NewSource(2))
	for range 30 {
		l := sample.Lives(5, r.Intn)
		all := sample.Store(l, sample.Tree(5, r.Intn))
		a, b := sample.Part(r.Intn, all.Statements), sample.Part(r.Intn, all.Statements)
		one, err := store.Merge(a, b)
		other, err2 := store.Merge(b, a)
		if err != api.OK || err2 != api.OK {
			t.Fatalf("the errors are %d and %d", err, err2)
		}
		for time := range 20 {
			g, err := At(store.Counted(one), time, 1)
			if err != api.OK {
				t.Fatalf("the error is %d", err)
			}
			expectAt(t, store.Counted(other), time, 1, g)
		}
	}
}

// P6: what was pinned has the same graph, whatever is added to the store: here other faces of every author.
func TestPinned(t *testing.T) {
	r := rand.New(rand.NewSource(3))
	for range 30 {
		l := sample.Lives(5, r.Intn)
		s := sample.Store(l)
		pins := store.Pins(s)
		s = sample.Faces(s, 5)
		pinned, err := store.Pinned(s, pins)
		if err != api.OK {
			t.Fatalf("the error is %d", err)
		}
		for time := range 20 {
			expectAt(t, pinned, time, 1, modelAt(l, 5, time, 1))
		}
	}
}

// A branch that was pinned goes past a resignation: its author is gone once, and nothing it says later is an edge.
func TestAtPastResignation(t *testing.T) {
	l := sample.Write(1, sample.Vouch(2, 9, 1, 20), sample.Resign(4), sample.Vouch(6, 9, 1, 20), sample.Resign(7))
	for time := range 25 {
		want := at(nil)
		if time >= 2 {
			want = at(nil, edge(1, 9, 1))
		}
		if time >= 4 {
			want = at([]int{1})
		}
		expectAt(t, l, time, 1, want)
	}
}

// P1: At comes to an end, whatever the list is, also with keys, levels and times that are none, in no order and with everything twice.
func TestAtAnyList(t *testing.T) {
	r := rand.New(rand.NewSource(4))
	number := func() int {
		if r.Intn(4) == 0 {
			return far[r.Intn(len(far))]
		}
		return r.Intn(6) - 1
	}
	for range 300 {
		var l []api.Statement
		for range r.Intn(30) {
			l = append(l, api.Statement{Author: number(), Number: number(), Time: number(), Kind: number(), A: number(), B: number(), C: number()})
		}
		l = append(l, l...)
		level := number()
		g, err := At(l, number(), level)
		isLevel := slices.Contains([]int{1, 2, 3}, level)
		if isLevel != (err == api.OK) || !isLevel && (err != api.ErrRange || !isZero(g)) {
			t.Errorf("at level %d the graph of %s is %v, error %d", level, sample.Deeds(l), g, err)
		}
	}
}
