package vouch

import (
	"math"
	"slices"
	"testing"

	"trustflow/api"
	"trustflow/sample"
	"trustflow/statement"
	"trustflow/store"
)

// far are numbers at the ends of what an int can be, and about them.
var far = []int{math.MinInt, math.MinInt + 1, -1 << 40, -2, -1, 0, 1, api.MaxTime - 1, api.MaxTime, api.MaxTime + 1, 1 << 40, math.MaxInt - 1, math.MaxInt}

// name is a vouch, named by its author and its number.
type name struct{ from, number int }

// counted returns what counts of a store with some rows, and asserts that this is all of them.
func counted(t *testing.T, rows ...[]api.Statement) []api.Statement {
	t.Helper()
	s := sample.Store(rows...)
	l := store.Counted(s)
	if !store.Valid(s) || !isList(l, s.Statements) {
		t.Fatalf("%s does not count", sample.Deeds(s.Statements))
	}
	return l
}

// named returns the vouches of l with some names, in the order of the names.
func named(t *testing.T, l []api.Statement, names []name) []api.Vouch {
	t.Helper()
	all := Of(l)
	var out []api.Vouch
	for _, n := range names {
		i := slices.IndexFunc(all, func(v api.Vouch) bool { return v.From == n.from && v.Number == n.number })
		if i < 0 {
			t.Fatalf("%s has no vouch %d of %d", sample.Deeds(l), n.number, n.from)
		}
		out = append(out, all[i])
	}
	return out
}

// isList reports whether two lists are equal.
func isList(a, b []api.Statement) bool { return slices.EqualFunc(a, b, statement.Same) }

// expectKept calls a function of a list, behind which somebody else's statements stand, and asserts that it changes nothing of this.
func expectKept(t *testing.T, l []api.Statement, f func(l []api.Statement)) {
	t.Helper()
	whole := slices.Concat(l, []api.Statement{sample.Vouch(0, 1, 1, 9), sample.Resign(0)})
	before := slices.Clone(whole)
	f(whole[:len(l)])
	if !isList(whole, before) {
		t.Errorf("%s has been changed", sample.Deeds(l))
	}
}

// expectOf asserts which vouches a list has.
func expectOf(t *testing.T, l []api.Statement, want []api.Vouch) {
	t.Helper()
	expectKept(t, l, func(l []api.Statement) {
		if got := Of(l); !slices.Equal(got, want) {
			t.Errorf("the vouches of %s are %v, want %v", sample.Deeds(l), got, want)
		}
	})
}

// expectGone asserts who has resigned at a time.
func expectGone(t *testing.T, l []api.Statement, time int, want []int) {
	t.Helper()
	expectKept(t, l, func(l []api.Statement) {
		if got := Gone(l, time); !slices.Equal(got, want) {
			t.Errorf("at %d %v have resigned in %s, want %v", time, got, sample.Deeds(l), want)
		}
	})
}

// expectActive asserts which vouches hold at a time.
func expectActive(t *testing.T, l []api.Statement, time int, want []api.Vouch) {
	t.Helper()
	expectKept(t, l, func(l []api.Statement) {
		if got := Active(l, time); !slices.Equal(got, want) {
			t.Errorf("at %d %v hold in %s, want %v", time, got, sample.Deeds(l), want)
		}
	})
}

// expectBetween asserts which vouch of one key for another one holds at a time, if any.
func expectBetween(t *testing.T, l []api.Statement, from, to, time int, want api.Vouch, wantOK bool) {
	t.Helper()
	expectKept(t, l, func(l []api.Statement) {
		if got, ok := Between(l, from, to, time); got != want || ok != wantOK {
			t.Errorf("at %d %v, %t holds from %d to %d in %s, want %v, %t", time, got, ok, from, to, sample.Deeds(l), want, wantOK)
		}
	})
}
