package store

import (
	"math/rand"
	"slices"
	"testing"

	"trustflow/api"
	"trustflow/statement"
)

// modelValid is the chapter's definition of a valid store, each statement against all those behind it.
func modelValid(l []api.Statement) bool {
	for i, s := range l {
		if statement.Check(s) != api.OK || !statement.Sealed(s) {
			return false
		}
		for _, later := range l[i+1:] {
			if !before(s, later) {
				return false
			}
		}
	}
	return len(l) <= api.MaxStatements
}

// follows is the definition of chapter 4, word by word.
func follows(a, b api.Statement) bool {
	return b.Author == a.Author && b.Number == a.Number+1 && b.Prev == statement.Digest(a) && b.Time >= a.Time
}

// modelRow is what counts of an author among different statements by the definition of chapter 4.
func modelRow(author int, l []api.Statement) []api.Statement {
	var row []api.Statement
	for n := range api.MaxChain {
		var with []api.Statement
		for _, s := range l {
			if s.Author == author && s.Number == n {
				with = append(with, s)
			}
		}
		if len(with) != 1 || n > 0 && (!follows(row[n-1], with[0]) || row[n-1].Kind == api.KindResign) {
			break
		}
		row = append(row, with[0])
	}
	return row
}

// modelCounted is what counts of each author.
func modelCounted(l []api.Statement) [][]api.Statement {
	var rows [][]api.Statement
	for author := range api.MaxKeys {
		if row := modelRow(author, l); len(row) > 0 {
			rows = append(rows, row)
		}
	}
	return rows
}

// anyStatement is a sealed statement that mostly stands behind one of a list, now and then where it does not fit.
func anyStatement(r *rand.Rand, l []api.Statement) api.Statement {
	s := first(me+r.Intn(3), 10, r.Intn(2))
	if len(l) > 0 && r.Intn(8) > 0 {
		s = behind(l[r.Intn(len(l))], r.Intn(3), r.Intn(2))
	}
	return resealed(s, func(s *api.Statement) {
		switch r.Intn(24) {
		case 0:
			s.Kind, s.A, s.List = api.KindResign, 0, nil
		case 1:
			s.Time -= 2
		case 2:
			s.Author = me + r.Intn(3)
		}
	})
}

// anyStore is a valid store of such statements.
func anyStore(r *rand.Rand, l []api.Statement) api.Store {
	l = slices.Clone(l)
	for range r.Intn(14) {
		l = append(l, anyStatement(r, l))
	}
	return storeOf(l)
}

// P5.1, P5.2, P5.3: all kinds of stores, against the chapters' definitions.
func TestAgainstTheDefinitions(t *testing.T) {
	r := rand.New(rand.NewSource(1))
	longest, rows := 0, 0
	for range 500 {
		s := anyStore(r, nil)
		counted := modelCounted(s.Statements)
		expectCounted(t, "a store", s, counted...)
		for author := range 3 {
			of := only(s.Statements, func(x api.Statement) bool { return x.Author == me+author })
			expectRead(t, "a store", s, me+author, of, modelRow(me+author, s.Statements))
		}
		longest, rows = max(longest, len(together(counted...))), max(rows, len(counted))
		l := shuffled(r, s.Statements)
		if got := Valid(api.Store{Statements: l}); got != modelValid(l) {
			t.Errorf("%s: valid: %v", brief(l), got)
		}
	}
	if longest < 8 || rows < 3 {
		t.Errorf("the stores show too little: %d statements of %d authors", longest, rows)
	}
}

// merged is what Merge returns of stores that are valid and not too full.
func merged(t *testing.T, a, b api.Store) api.Store {
	t.Helper()
	s, err := Merge(a, b)
	if err != api.OK || !Valid(s) {
		t.Errorf("the merge of %s and %s is %s, error %d", brief(a.Statements), brief(b.Statements), brief(s.Statements), err)
	}
	return s
}

// Consequences: Merge does not depend on the order, merging twice changes nothing, and adding one by one does the same.
func TestMergeOfAnyStores(t *testing.T) {
	r := rand.New(rand.NewSource(2))
	for range 300 {
		a := anyStore(r, nil)
		b := anyStore(r, a.Statements[:r.Intn(len(a.Statements)+1)])
		c := anyStore(r, b.Statements)
		both := merged(t, a, b)
		expectStore(t, "the definition", both, storeOf(a.Statements, b.Statements))
		expectStore(t, "the other order", merged(t, b, a), both)
		expectStore(t, "twice", merged(t, both, b), both)
		expectStore(t, "three", merged(t, both, c), merged(t, a, merged(t, b, c)))
		one := a
		for _, x := range shuffled(r, b.Statements) {
			one, _, _ = Add(one, x)
		}
		expectStore(t, "one by one", one, both)
	}
}

// P6, Consequences: Pinned of Pins is Counted, and stays the same, whatever is added, also forks of what is pinned.
func TestPinnedStays(t *testing.T) {
	r := rand.New(rand.NewSource(3))
	forks := 0
	for range 300 {
		s := anyStore(r, nil)
		pins, counted := Pins(s), Counted(s)
		expectPinned(t, "what counts", s, pins, counted, api.OK)
		for range 10 {
			s, _, _ = Add(s, anyStatement(r, s.Statements))
			expectPinned(t, "with more statements", s, pins, counted, api.OK)
		}
		if len(Counted(s)) < len(counted) {
			forks++
		}
		expectPinned(t, "with others", merged(t, s, mixed()), pins, counted, api.OK)
	}
	if forks < 50 {
		t.Errorf("only %d of the stores were forked", forks)
	}
}

// Consequences (chapter 4): what counts of a store and is not pinned can go away by a fork, what is pinned cannot.
func TestPinnedBelowAFork(t *testing.T) {
	l := chained(me, 6)
	s := storeOf(l, chained(me+1, 2))
	pins := Pins(s)
	for i, x := range l {
		forked := merged(t, s, storeOf(list(resealed(x, func(x *api.Statement) { x.A += 100 }))))
		if h := Height(forked, me); h != i {
			t.Errorf("the height below a fork at %d is %d", i, h)
		}
		expectPinned(t, "a fork", forked, pins, together(l, chained(me+1, 2)), api.OK)
	}
}

// P5.1: stores with little wrong in them are told apart from those without.
func TestValidOfAnyStores(t *testing.T) {
	r := rand.New(rand.NewSource(4))
	valid, wrong := 0, 0
	for range 2000 {
		l := slices.Clone(anyStore(r, nil).Statements)
		if len(l) < 2 {
			continue
		}
		i := r.Intn(len(l) - 1)
		switch r.Intn(6) {
		case 0:
			l[i], l[i+1] = l[i+1], l[i]
		case 1:
			l[i+1] = l[i]
		case 2:
			l[i].Time++
		case 3:
			l[i].Seal.Key--
		case 4:
			l[i] = resealed(l[i], func(s *api.Statement) { s.C++ })
		}
		if modelValid(l) {
			valid++
		} else {
			wrong++
		}
		if got := Valid(api.Store{Statements: l}); got != modelValid(l) {
			t.Errorf("%s: valid: %v", brief(l), got)
		}
	}
	if valid < 300 || wrong < 300 {
		t.Errorf("%d stores were valid, %d were not", valid, wrong)
	}
}
