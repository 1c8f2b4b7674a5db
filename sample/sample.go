// Package sample makes statements, stores, graphs and policies for the tests of the layers from 6 on. No layer calls it.
package sample

import (
	"cmp"
	"slices"
	"strconv"
	"strings"

	"trustflow/api"
	"trustflow/statement"
)

// Said returns a sealed statement, unlike others of other values. What stands before it, if anything, is not known.
func Said(author, number, value int) api.Statement {
	s := api.Statement{Author: author, Number: number, Time: 10, Kind: api.KindOther, A: value}
	if number > 0 {
		s.Prev = strings.Repeat("p", 32)
	}
	return statement.Seal(s)
}

// After returns a sealed statement of a kind that follows s, also where chain.Next has none: past a resignation.
func After(s api.Statement, kind, value int) api.Statement {
	return statement.Seal(api.Statement{Author: s.Author, Number: s.Number + 1, Prev: s.Seal.Digest, Time: s.Time + 1, Kind: kind, A: value})
}

// Row returns so many statements of an author that follow one another.
func Row(author, n int) []api.Statement {
	var l []api.Statement
	for i := range n {
		s := Said(author, 0, 0)
		if i > 0 {
			s = After(l[i-1], api.KindOther, i)
		}
		l = append(l, s)
	}
	return l
}

// Store returns the store with the statements of several lists, each once. It is valid if they are well formed, sealed and not too many.
func Store(lists ...[]api.Statement) api.Store {
	l := slices.Concat(lists...)
	slices.SortFunc(l, Order)
	return api.Store{Statements: slices.CompactFunc(l, statement.Same)}
}

// Order compares sealed statements as they are ordered in a store.
func Order(a, b api.Statement) int {
	return cmp.Or(
		cmp.Compare(a.Author, b.Author),
		cmp.Compare(a.Number, b.Number),
		// Bytes are unsigned numbers, by which digests are compared.
		slices.Compare([]byte(a.Seal.Digest), []byte(b.Seal.Digest)),
	)
}

// Brief shows statements: of each one the author, the number, what it says and the first byte of its seal.
func Brief(l []api.Statement) string {
	var b strings.Builder
	for _, s := range l {
		seal := s.Seal.Digest + "\x00"
		b.WriteString(" " + strconv.Itoa(s.Author) + "." + strconv.Itoa(s.Number) + ":" + strconv.Itoa(s.A) + "/" + strconv.Itoa(int(seal[0])))
	}
	return "[" + b.String() + " ]"
}
