package store

import (
	"math"
	"math/rand"
	"slices"
	"strings"
	"testing"

	"trustflow/api"
	"trustflow/statement"
)

// me is the author of most statements of these tests.
const me = 5

// nobody are numbers that are no keys.
var nobody = []int{-1, api.MaxKeys, 1 << 40, math.MinInt, math.MaxInt}

// first is a sealed statement with the number 0, unlike others of other values.
func first(author, time, value int) api.Statement {
	return statement.Seal(api.Statement{Author: author, Time: time, Kind: api.KindOther, A: value, List: []int{value}})
}

// behind is a sealed statement that follows another one, after so much time.
func behind(s api.Statement, ticks, value int) api.Statement {
	return resealed(first(s.Author, s.Time+ticks, value), func(n *api.Statement) {
		n.Number, n.Prev = s.Number+1, statement.Digest(s)
	})
}

// resignation is a sealed resignation that follows a statement.
func resignation(s api.Statement) api.Statement {
	return statement.Seal(api.Statement{Author: s.Author, Number: s.Number + 1, Prev: statement.Digest(s), Time: s.Time, Kind: api.KindResign})
}

// resealed is a statement with a change, and the right seal for it.
func resealed(s api.Statement, change func(*api.Statement)) api.Statement {
	change(&s)
	return statement.Seal(s)
}

// chained is so many statements of an author that follow one another.
func chained(author, n int) []api.Statement {
	var l []api.Statement
	for i := range n {
		if i == 0 {
			l = append(l, first(author, 10, 0))
		} else {
			l = append(l, behind(l[i-1], i%2, i))
		}
	}
	return l
}

// list is statements as a list.
func list(s ...api.Statement) []api.Statement { return s }

// together are several lists as one, in new memory.
func together(lists ...[]api.Statement) []api.Statement { return slices.Concat(lists...) }

// without is a list without one of its elements.
func without(l []api.Statement, i int) []api.Statement { return together(l[:i], l[i+1:]) }

// only is the elements of a list that fit, in new memory.
func only(l []api.Statement, fits func(api.Statement) bool) []api.Statement {
	return slices.DeleteFunc(slices.Clone(l), func(s api.Statement) bool { return !fits(s) })
}

// before is the chapter's order, by the digests themselves, of which each byte is compared as an unsigned number.
func before(a, b api.Statement) bool {
	if a.Author != b.Author {
		return a.Author < b.Author
	}
	if a.Number != b.Number {
		return a.Number < b.Number
	}
	d, e := statement.Digest(a), statement.Digest(b)
	for i := range 32 {
		if d[i] != e[i] {
			return uint(d[i]) < uint(e[i])
		}
	}
	return false
}

// sorted is a list in the chapter's order, in new memory.
func sorted(l []api.Statement) []api.Statement {
	l = slices.Clone(l)
	slices.SortFunc(l, func(a, b api.Statement) int {
		switch {
		case before(a, b):
			return -1
		case before(b, a):
			return 1
		}
		return 0
	})
	return l
}

// storeOf is the store with the statements of several lists, each once.
func storeOf(lists ...[]api.Statement) api.Store {
	return api.Store{Statements: slices.CompactFunc(sorted(together(lists...)), statement.Same)}
}

// fullStore is a store with as many statements as are permitted: five authors with whole chains.
func fullStore() api.Store {
	var l []api.Statement
	for author := range 5 {
		l = append(l, chained(2*author, api.MaxChain)...)
	}
	return api.Store{Statements: l}
}

// mixed is a store with all that there can be: rows, forks, gaps, resignations, of several authors.
func mixed() api.Store {
	rows := [][]api.Statement{chained(0, 3), chained(me, 4), chained(20, 2), chained(40, 5)}
	face := behind(rows[1][1], 1, 70)
	end := resignation(rows[2][1])
	return storeOf(rows[0], rows[1], list(face, behind(face, 1, 71)), rows[2], list(end, behind(end, 1, 72)), without(rows[3], 2), list(first(63, 1, 1), first(63, 1, 2)))
}

// isList reports whether two lists are equal.
func isList(a, b []api.Statement) bool { return slices.EqualFunc(a, b, statement.Same) }

// isStore reports whether two stores are equal.
func isStore(a, b api.Store) bool { return isList(a.Statements, b.Statements) }

// brief shows a list.
func brief(l []api.Statement) string {
	const digits = "0123456789abcdef"
	var b strings.Builder
	for _, s := range l {
		d := s.Seal.Digest + "\x00"
		b.WriteString(" " + string(rune('A'+s.Author%26)))
		b.WriteByte(digits[s.Number&15])
		b.WriteByte('/')
		b.WriteByte(digits[d[0]>>4])
		b.WriteByte(digits[d[0]&15])
	}
	return "[" + b.String() + " ]"
}

// shuffled is a list in another order.
func shuffled(r *rand.Rand, l []api.Statement) []api.Statement {
	l = slices.Clone(l)
	r.Shuffle(len(l), func(i, j int) { l[i], l[j] = l[j], l[i] })
	return l
}

// roomy is a store with room behind its statements, in which somebody else's statements stand.
func roomy(s api.Store) (api.Store, []api.Statement) {
	n := len(s.Statements)
	whole := together(s.Statements, chained(62, 5))
	return api.Store{Statements: whole[:n]}, whole
}

// unfit are statements that look like one that is well formed and sealed, each one with something wrong, and the error that says so.
func unfit(s api.Statement) map[string]struct {
	statement api.Statement
	err       api.Errno
} {
	all := map[string]struct {
		statement api.Statement
		err       api.Errno
	}{}
	add := func(name string, err api.Errno, change func(*api.Statement)) {
		all[name] = struct {
			statement api.Statement
			err       api.Errno
		}{resealed(s, change), err}
	}
	add("a negative author", api.ErrKey, func(s *api.Statement) { s.Author = -1 })
	add("an author that is no key", api.ErrKey, func(s *api.Statement) { s.Author = api.MaxKeys })
	add("a kind that is none", api.ErrKind, func(s *api.Statement) { s.Kind = 9 })
	add("a negative time", api.ErrTime, func(s *api.Statement) { s.Time = -1 })
	add("a number that is too great", api.ErrRange, func(s *api.Statement) { s.Number, s.Prev = api.MaxChain, strings.Repeat("p", 32) })
	add("a negative number", api.ErrRange, func(s *api.Statement) { s.Number = -1 })
	add("a value out of range", api.ErrRange, func(s *api.Statement) { s.C = -1 })
	add("a list that is too long", api.ErrLimit, func(s *api.Statement) { s.List = make([]int, api.MaxList+1) })
	add("a Prev without form", api.ErrForm, func(s *api.Statement) { s.Prev += "p" })
	add("pins without form", api.ErrForm, func(s *api.Statement) { s.Pins = []api.Pin{{Author: 1}} })
	for name, wrong := range badSeals(s) {
		all[name] = struct {
			statement api.Statement
			err       api.Errno
		}{wrong, api.ErrSeal}
	}
	return all
}

// badSeals are well formed statements whose seals are not right.
func badSeals(s api.Statement) map[string]api.Statement {
	none, old, short, long, key := s, s, s, s, s
	none.Seal = api.Seal{}
	old.A++
	short.Seal.Digest = s.Seal.Digest[:31]
	long.Seal.Digest += "\x00"
	key.Seal.Key++
	return map[string]api.Statement{"no seal": none, "the seal of another one": old, "a seal that is cut off": short, "a seal that is too long": long, "another key's seal": key}
}

// invalid are stores that are not valid.
func invalid() map[string]api.Store {
	l := chained(me, 3)
	other := chained(me+1, 2)
	faces := storeOf(list(behind(l[2], 1, 7), behind(l[2], 1, 8))).Statements
	of := func(lists ...[]api.Statement) api.Store { return api.Store{Statements: together(lists...)} }
	all := map[string]api.Store{
		"a statement twice":           of(l[:1], l[:1], l[1:]),
		"the last one twice":          of(l, l[2:]),
		"numbers that fall":           of(l[:1], list(l[2], l[1])),
		"the first number at the end": of(l[1:], l[:1]),
		"authors that fall":           of(other, l),
		"authors mixed":               of(l[:1], other, l[1:]),
		"digests that fall":           of(l, list(faces[1], faces[0])),
		"a statement later on":        of(l, other, l[2:]),
		"the zero statement":          of(list(api.Statement{})),
		"too many statements":         of(fullStore().Statements, list(first(63, 1, 1))),
	}
	for name, wrong := range unfit(l[1]) {
		all[name] = of(l[:1], list(wrong.statement), l[2:])
	}
	return all
}

// expectStore asserts a store, and that it is valid.
func expectStore(t *testing.T, name string, got, want api.Store) {
	t.Helper()
	if !isStore(got, want) {
		t.Errorf("%s: the store is %s, want %s", name, brief(got.Statements), brief(want.Statements))
	}
	if !Valid(got) {
		t.Errorf("%s: the store is not valid", name)
	}
}
