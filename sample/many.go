package sample

import (
	"slices"

	"trustflow/api"
	"trustflow/statement"
)

// Tree returns what four authors have ever said, the first one of them with the key first: rows, other faces of them that go on, resignations that others follow, statements that follow nothing. pick(n) chooses a number from 0 to n - 1.
func Tree(first int, pick func(n int) int) []api.Statement {
	var all []api.Statement
	for author := first; author < first+4; author++ {
		row := Row(author, 1+pick(6))
		all = append(all, row...)
		last := row[len(row)-1]
		switch pick(5) {
		case 0:
			face := After(row[pick(len(row))], api.KindOther, 50)
			all = append(all, face, After(face, api.KindOther, 51))
		case 1:
			end := After(last, api.KindResign, 0)
			all = append(all, end, After(end, api.KindOther, 52))
		case 2:
			all = append(all, Said(author, 0, 53))
		case 3:
			all = append(all, Said(author, last.Number+1+pick(3), 54))
		}
	}
	return all
}

// Part returns a store with a part of a list: mostly the beginnings of what each author has said.
func Part(pick func(n int) int, l []api.Statement) api.Store {
	upTo := make([]int, api.MaxKeys)
	for i := range upTo {
		upTo[i] = pick(9)
	}
	return Store(slices.DeleteFunc(slices.Clone(l), func(s api.Statement) bool {
		return s.Number >= upTo[s.Author] || pick(12) == 0
	}))
}

// WildStores returns stores that are not valid, each for one reason.
func WildStores() map[string]api.Store {
	const me = 5
	l := Row(me, 4)
	bare, forged, far, none := l[1], l[1], l[1], l[1]
	bare.Seal = api.Seal{}
	forged.A++
	far.Number = 1 << 40
	none.Author = -1
	faces := []api.Statement{Said(me, 4, 1), Said(me, 4, 2)}
	slices.SortFunc(faces, Order)
	var many []api.Statement
	for i := range api.MaxStatements + 1 {
		many = append(many, Said(me, 7, i))
	}
	slices.SortFunc(many, Order)
	return map[string]api.Store{
		"the zero statement":  {Statements: []api.Statement{{}}},
		"a statement twice":   {Statements: slices.Concat(l, l[3:])},
		"numbers that fall":   {Statements: []api.Statement{l[1], l[0]}},
		"digests that fall":   {Statements: []api.Statement{faces[1], faces[0]}},
		"authors that fall":   {Statements: slices.Concat(l, Row(me-1, 2))},
		"no seal":             {Statements: []api.Statement{l[0], bare, l[2]}},
		"another one's seal":  {Statements: []api.Statement{l[0], forged, l[2]}},
		"too great a number":  {Statements: []api.Statement{l[0], statement.Seal(far)}},
		"an author that is -": {Statements: []api.Statement{statement.Seal(none), l[0]}},
		"too many statements": {Statements: many},
	}
}
