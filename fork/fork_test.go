package fork

import (
	"math/rand"
	"slices"
	"strings"
	"testing"

	"trustflow/api"
	"trustflow/sample"
	"trustflow/statement"
	"trustflow/store"
)

// P6.1: without two statements with one number of one author there is no fork.
func TestNoForks(t *testing.T) {
	l := sample.Row(me, 6)
	expectForks(t, "nil", api.Store{})
	expectForks(t, "empty", api.Store{Statements: list()})
	expectForks(t, "one statement", storeOf(t, l[:1]))
	expectForks(t, "a row", storeOf(t, l))
	expectForks(t, "a whole chain", storeOf(t, sample.Row(me, api.MaxChain)))
	expectForks(t, "a gap", storeOf(t, l[:2], l[4:]))
	expectForks(t, "no beginning", storeOf(t, l[3:]))
	expectForks(t, "statements that follow nothing", storeOf(t, list(sample.Said(me, 0, 1), sample.Said(me, 1, 1), sample.Said(me, 2, 1))))
	expectForks(t, "one number of two authors", storeOf(t, list(sample.Said(me, 3, 1), sample.Said(me+1, 3, 2), sample.Said(me-1, 3, 3))))
	expectForks(t, "one statement with two numbers", storeOf(t, list(sample.Said(me, 3, 1), sample.Said(me, 4, 1))))
	var all []api.Statement
	for author := range api.MaxKeys {
		all = append(all, sample.Row(author, 3)...)
	}
	expectForks(t, "all authors", storeOf(t, all))
}

// P6.1: the chapter's example.
func TestExample(t *testing.T) {
	a := sample.Said(3, 1, 0)
	b := changed(a, func(s *api.Statement) { s.Time++ })
	s := storeOf(t, list(a, b))
	if g, n := Guilty(s), From(s, 3); !slices.Equal(g, []int{3}) || n != 1 {
		t.Errorf("guilty are %v, from %d", g, n)
	}
	expectForks(t, "the example", s, two(a, b))
}

// P6.1: any two statements with one number are a fork, of whichever author, at whichever number, whatever stands around them.
func TestForks(t *testing.T) {
	for _, author := range []int{0, 1, me, 62, 63} {
		for _, number := range []int{0, 1, 2, 100, 198, 199} {
			a, b := sample.Said(author, number, 1), sample.Said(author, number, 2)
			expectForks(t, "two faces", storeOf(t, list(a, b)), two(a, b))
			others := together(sample.Row((author+1)%api.MaxKeys, 3), sample.Row((author+63)%api.MaxKeys, 3))
			expectForks(t, "two faces among others", storeOf(t, list(a, b), others), two(a, b))
		}
	}
	l := sample.Row(me, 6)
	for i, a := range l {
		b := sample.Said(me, i, 99)
		expectForks(t, "a row with another face", storeOf(t, l, list(b)), two(a, b))
		expectForks(t, "no beginning", storeOf(t, l[i:], list(b)), two(a, b))
		expectForks(t, "no end", storeOf(t, l[:i+1], list(b)), two(a, b))
	}
}

// P6.1: two statements are different, whatever it is that they say differently.
func TestForksOfAnyDifference(t *testing.T) {
	a := changed(sample.Said(me, 2, 7), func(s *api.Statement) { s.List = []int{1, 2} })
	for name, change := range map[string]func(*api.Statement){
		"Prev":        func(s *api.Statement) { s.Prev = strings.Repeat("q", 32) },
		"Time":        func(s *api.Statement) { s.Time++ },
		"less Time":   func(s *api.Statement) { s.Time = 0 },
		"Kind":        func(s *api.Statement) { s.Kind++ },
		"A":           func(s *api.Statement) { s.A++ },
		"B":           func(s *api.Statement) { s.B++ },
		"C":           func(s *api.Statement) { s.C++ },
		"List":        func(s *api.Statement) { s.List = []int{2, 1} },
		"no List":     func(s *api.Statement) { s.List = nil },
		"Pins":        func(s *api.Statement) { s.Pins = []api.Pin{{Author: 1, Height: 1, Digest: s.Prev}} },
		"Body":        func(s *api.Statement) { s.Body = "b" },
		"a vouch":     func(s *api.Statement) { s.Kind, s.A, s.B, s.C, s.List = api.KindVouch, 1, 1, 50, nil },
		"resignation": func(s *api.Statement) { s.Kind, s.A, s.List = api.KindResign, 0, nil },
	} {
		b := changed(a, change)
		expectForks(t, name, storeOf(t, list(a, b)), two(a, b))
	}
}

// P6.1: of more than two faces those with the least digests, of several forks the one with the least number, once for each author.
func TestForkOfAnAuthor(t *testing.T) {
	for n := 2; n < 9; n++ {
		l := facesOf(me, 4, n)
		expectForks(t, "many faces", storeOf(t, l), two(l...))
		expectForks(t, "many faces, and a later fork", storeOf(t, l, facesOf(me, 5, n)), two(l...))
		earlier := facesOf(me, 3, n)
		expectForks(t, "an earlier fork", storeOf(t, l, earlier, facesOf(me, 199, 2)), two(earlier...))
	}
	many := facesOf(me, 7, api.MaxStatements)
	expectForks(t, "as many faces as a store has", storeOf(t, many), two(many...))
}

// P6.1: the forks of several authors are by author, not by number or digest.
func TestForksOfSeveral(t *testing.T) {
	var l []api.Statement
	var want []api.Fork
	for author := range api.MaxKeys {
		pair := facesOf(author, 199-author, 2)
		l, want = append(l, pair...), append(want, two(pair...))
	}
	expectForks(t, "all authors", storeOf(t, l), want...)
	a, b, c := facesOf(2, 6, 2), facesOf(40, 0, 3), facesOf(63, 2, 2)
	s := storeOf(t, c, sample.Row(30, 4), b, sample.Row(0, 2), a, sample.Row(41, 1))
	expectForks(t, "some authors", s, two(a...), two(b...), two(c...))
}

// P6.1: a fork that nothing counted leads to is one: behind a gap, past a resignation, behind another fork.
func TestForksThatDoNotCount(t *testing.T) {
	l := sample.Row(me, 3)
	end := statement.Seal(api.Statement{Author: me, Number: 3, Prev: l[2].Seal.Digest, Time: 50, Kind: api.KindResign})
	far := facesOf(me, 50, 2)
	expectForks(t, "behind a gap", storeOf(t, l, far), two(far...))
	past := facesOf(me, 4, 2)
	expectForks(t, "past a resignation", storeOf(t, l, list(end), past), two(past...))
	again := changed(end, func(s *api.Statement) { s.Time++ })
	expectForks(t, "two resignations", storeOf(t, l, list(end, again)), two(end, again))
}

// guiltBy is the definition: the authors of whom a store has, anywhere, two different statements with one number, with the least one.
func guiltBy(s api.Store) map[int]int {
	from := map[int]int{}
	for i, a := range s.Statements {
		for _, b := range s.Statements[:i] {
			if a.Author != b.Author || a.Number != b.Number || statement.Same(a, b) {
				continue
			}
			if n, ok := from[a.Author]; !ok || a.Number < n {
				from[a.Author] = a.Number
			}
		}
	}
	return from
}

// modelForks is the definition of forks, from the definition of who is guilty.
func modelForks(s api.Store) []api.Fork {
	var all []api.Fork
	from := guiltBy(s)
	for author := range api.MaxKeys {
		number, ok := from[author]
		if !ok {
			continue
		}
		var with []api.Statement
		for _, x := range s.Statements {
			if x.Author == author && x.Number == number {
				with = append(with, x)
			}
		}
		all = append(all, two(with...))
	}
	return all
}

// anyStore is a store in which a few authors have said all kinds of things.
func anyStore(t *testing.T, r *rand.Rand) api.Store {
	t.Helper()
	var l []api.Statement
	for range r.Intn(28) {
		l = append(l, sample.Said(me+r.Intn(4), r.Intn(6), r.Intn(3)))
	}
	return storeOf(t, l)
}

// P6.1: all kinds of stores, against the definition.
func TestAgainstTheDefinition(t *testing.T) {
	r := rand.New(rand.NewSource(1))
	none, some, most := 0, 0, 0
	for range 1000 {
		s := anyStore(t, r)
		want := modelForks(s)
		expectForks(t, "a store", s, want...)
		switch len(want) {
		case 0:
			none++
		case 1, 2:
			some++
		default:
			most++
		}
	}
	if none < 100 || some < 100 || most < 100 {
		t.Errorf("the stores show too little: %d without a fork, %d with one or two, %d with more", none, some, most)
	}
}

// Consequences: a fork never goes away by more statements, and its number never rises.
func TestForksStay(t *testing.T) {
	r := rand.New(rand.NewSource(2))
	fell, came := 0, 0
	for range 500 {
		s := anyStore(t, r)
		more := merged(t, s, anyStore(t, r))
		for author := me; author < me+4; author++ {
			before, after := From(s, author), From(more, author)
			switch {
			case before < 0 && after >= 0:
				came++
			case before >= 0 && (after < 0 || after > before):
				t.Errorf("the fork of %d in %s is from %d, in %s from %d", author, sample.Brief(s.Statements), before, sample.Brief(more.Statements), after)
			case after < before:
				fell++
			}
		}
	}
	if came < 100 || fell < 20 {
		t.Errorf("%d forks came, the numbers of %d fell", came, fell)
	}
}

// Consequences: who never seals two statements with one number is never guilty, whatever others put into the store.
func TestHonestMembers(t *testing.T) {
	r := rand.New(rand.NewSource(3))
	honest := storeOf(t, sample.Row(me+4, 12))
	for range 200 {
		s := honest
		for _, x := range shuffled(r, together(anyStore(t, r).Statements, sample.Row(me+4, 12))) {
			forged := x
			forged.Author = me + 4
			for _, y := range list(x, forged) {
				s, _, _ = store.Add(s, y)
			}
		}
		if From(s, me+4) != -1 || slices.Contains(Guilty(s), me+4) {
			t.Errorf("an honest member is guilty in %s", sample.Brief(s.Statements))
		}
	}
}

// P1: what is specified for valid stores alone comes to an end for others too, without a panic.
func TestInvalidStores(t *testing.T) {
	a, b := sample.Said(me, 3, 1), sample.Said(me, 3, 2)
	unsealed, wild, high := a, a, b
	unsealed.Seal = api.Seal{}
	wild.Author, wild.Kind = -1, 77
	high.Number = 1 << 40
	for _, l := range [][]api.Statement{
		list(api.Statement{}),
		list(a, a),
		list(two(a, b).Second, two(a, b).First),
		list(unsealed, b, b),
		list(wild, high, statement.Seal(wild), statement.Seal(high)),
		facesOf(me, 1, api.MaxStatements+50),
	} {
		s := api.Store{Statements: l}
		Find(s)
		Guilty(s)
		for _, author := range append(slices.Clone(nobody), 0, me, 63) {
			From(s, author)
		}
	}
}
