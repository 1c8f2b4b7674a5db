package sample

import (
	"testing"

	"trustflow/api"
	"trustflow/chain"
	"trustflow/store"
)

// What other tests rest on: rows count to their end, what is after something follows it, what was only said does not.
func TestStatements(t *testing.T) {
	l := Row(5, 4)
	next := After(l[3], api.KindOther, 7)
	if len(chain.Counted(5, l)) != 4 || !chain.Follows(l[3], next) || chain.Follows(l[3], Said(5, 4, 7)) {
		t.Errorf("%s are no rows and what follows", Brief(append(l, next)))
	}
}

// Stores are valid, whatever the order of what they are made of, and have each statement once.
func TestStores(t *testing.T) {
	l := Row(5, 4)
	s := Store(l[2:], Row(3, 2), l, []api.Statement{Said(5, 1, 9), Said(63, 0, 1), Said(5, 1, 8)})
	if !store.Valid(s) || len(s.Statements) != 9 {
		t.Errorf("%s is no store of 9 statements", Brief(s.Statements))
	}
}
