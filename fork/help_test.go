package fork

import (
	"math"
	"math/rand"
	"slices"
	"testing"

	"trustflow/api"
	"trustflow/sample"
	"trustflow/statement"
	"trustflow/store"
)

// me is the author of most statements of these tests.
const me = 5

// nobody are numbers that are no keys.
var nobody = []int{-1, api.MaxKeys, 1 << 40, math.MinInt, math.MaxInt}

// changed is a statement with a change, and the right seal for it.
func changed(s api.Statement, change func(*api.Statement)) api.Statement {
	change(&s)
	return statement.Seal(s)
}

// list is statements as a list.
func list(s ...api.Statement) []api.Statement { return s }

// together are several lists as one, in new memory.
func together(lists ...[]api.Statement) []api.Statement { return slices.Concat(lists...) }

// facesOf is so many different statements of an author with one number.
func facesOf(author, number, n int) []api.Statement {
	var l []api.Statement
	for i := range n {
		l = append(l, sample.Said(author, number, 1000+i))
	}
	return l
}

// storeOf is the valid store with the statements of several lists, each once.
func storeOf(t *testing.T, lists ...[]api.Statement) api.Store {
	t.Helper()
	s := sample.Store(lists...)
	if !store.Valid(s) {
		t.Fatalf("the store of %s is not valid", sample.Brief(s.Statements))
	}
	return s
}

// merged is the merge of two stores that are not too full.
func merged(t *testing.T, a, b api.Store) api.Store {
	t.Helper()
	s, err := store.Merge(a, b)
	if err != api.OK {
		t.Fatalf("there is no merge: error %d", err)
	}
	return s
}

// two is the evidence that different sealed statements of one author with one number are: the two with the least digests.
func two(l ...api.Statement) api.Fork {
	l = slices.Clone(l)
	slices.SortFunc(l, sample.Order)
	return api.Fork{First: l[0], Second: l[1]}
}

// turned is a fork with its statements the other way round.
func turned(f api.Fork) api.Fork { return api.Fork{First: f.Second, Second: f.First} }

// isFork reports whether two forks are equal.
func isFork(a, b api.Fork) bool {
	return statement.Same(a.First, b.First) && statement.Same(a.Second, b.Second)
}

// briefForks shows forks.
func briefForks(l []api.Fork) string {
	var all []api.Statement
	for _, f := range l {
		all = append(all, f.First, f.Second)
	}
	return sample.Brief(all)
}

// shuffled is a list in another order.
func shuffled(r *rand.Rand, l []api.Statement) []api.Statement {
	l = slices.Clone(l)
	r.Shuffle(len(l), func(i, j int) { l[i], l[j] = l[j], l[i] })
	return l
}

// expectForks asserts all forks of a store, from which numbers on they are, and who is guilty; that Check accepts them; and that the store stays as it was.
func expectForks(t *testing.T, name string, s api.Store, want ...api.Fork) {
	t.Helper()
	memory := slices.Clone(s.Statements)
	got := Find(s)
	if !slices.EqualFunc(got, want, isFork) {
		t.Errorf("%s: of %s the forks are %s, want %s", name, sample.Brief(memory), briefForks(got), briefForks(want))
	}
	var guilty []int
	from := map[int]int{}
	for _, f := range want {
		guilty = append(guilty, f.First.Author)
		from[f.First.Author] = f.First.Number
		if err := Check(f); err != api.OK {
			t.Errorf("%s: what was found is no evidence: error %d", name, err)
		}
	}
	if got := Guilty(s); !slices.Equal(got, guilty) {
		t.Errorf("%s: guilty of %s are %v, want %v", name, sample.Brief(memory), got, guilty)
	}
	for author := range api.MaxKeys {
		number, ok := from[author]
		if !ok {
			number = -1
		}
		if got := From(s, author); got != number {
			t.Errorf("%s: the fork of %d is from %d, want %d", name, author, got, number)
		}
	}
	for _, author := range nobody {
		if got := From(s, author); got != -1 {
			t.Errorf("%s: the fork of %d is from %d", name, author, got)
		}
	}
	if !slices.EqualFunc(s.Statements, memory, statement.Same) {
		t.Errorf("%s: the store has changed", name)
	}
}
