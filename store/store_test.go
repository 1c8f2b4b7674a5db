package store

import (
	"math/rand"
	"slices"
	"testing"

	"trustflow/api"
	"trustflow/statement"
)

// expectAdd asserts what Add returns, and that the arguments stay as they were, also what stands behind them in memory.
func expectAdd(t *testing.T, name string, s api.Store, x api.Statement, want api.Store, added bool, err api.Errno) api.Store {
	t.Helper()
	given, whole := roomy(s)
	memory, said := slices.Clone(whole), x
	got, ok, e := Add(given, x)
	if ok != added || e != err {
		t.Errorf("%s: added %v, error %d, want %v and %d", name, ok, e, added, err)
	}
	if !isStore(got, want) {
		t.Errorf("%s: the store is %s, want %s", name, brief(got.Statements), brief(want.Statements))
	}
	if !isList(whole, memory) || !statement.Same(x, said) {
		t.Errorf("%s: an argument has changed", name)
	}
	return got
}

// expectMerge asserts what Merge returns, in both orders, and that the arguments stay as they were.
func expectMerge(t *testing.T, name string, a, b, want api.Store, err api.Errno) {
	t.Helper()
	for range 2 {
		x, whole := roomy(a)
		y, other := roomy(b)
		memory, second := slices.Clone(whole), slices.Clone(other)
		got, e := Merge(x, y)
		if e != err || !isStore(got, want) {
			t.Errorf("%s: the store is %s, error %d, want %s and %d", name, brief(got.Statements), e, brief(want.Statements), err)
		}
		if !isList(whole, memory) || !isList(other, second) {
			t.Errorf("%s: an argument has changed", name)
		}
		a, b = b, a
	}
}

// P5.1: stores of all sizes are valid, with rows, forks, gaps and resignations.
func TestValid(t *testing.T) {
	l := chained(me, 4)
	for name, s := range map[string]api.Store{
		"nil":               {},
		"empty":             {Statements: list()},
		"one statement":     storeOf(l[:1]),
		"a row":             {Statements: l},
		"a gap":             {Statements: without(l, 1)},
		"no beginning":      {Statements: l[2:]},
		"two authors":       {Statements: together(l, chained(me+1, 2))},
		"all authors":       everybody(),
		"a fork":            storeOf(l, list(behind(l[1], 1, 9))),
		"what does not fit": storeOf(l, list(resealed(l[3], func(s *api.Statement) { s.Time = 0; s.Prev = l[0].Seal.Digest }))),
		"mixed":             mixed(),
		"full":              fullStore(),
		"many faces":        {Statements: faces(api.MaxStatements)},
	} {
		if !Valid(s) {
			t.Errorf("%s: not valid", name)
		}
	}
}

// everybody is a store with a statement of each key.
func everybody() api.Store {
	var l []api.Statement
	for author := range api.MaxKeys {
		l = append(l, first(author, 3, 1))
	}
	return api.Store{Statements: l}
}

// faces is so many statements of one author with one number, as they are in a store.
func faces(n int) []api.Statement {
	var l []api.Statement
	for i := range n {
		l = append(l, first(me, 3, i))
	}
	return sorted(l)
}

// P5.1: too many statements, a wrong one, or another order, and a store is not valid.
func TestInvalid(t *testing.T) {
	for name, s := range invalid() {
		if Valid(s) {
			t.Errorf("%s: valid", name)
		}
	}
	if s := (api.Store{Statements: faces(api.MaxStatements + 1)}); Valid(s) {
		t.Error("one statement too many: valid")
	}
}

// P5.1: one wrong statement is enough, wherever it is.
func TestInvalidAnywhere(t *testing.T) {
	l := chained(me, 5)
	for i, s := range l {
		for name, wrong := range unfit(s) {
			instead := slices.Clone(l)
			instead[i] = wrong.statement
			if Valid(api.Store{Statements: instead}) {
				t.Errorf("%s at %d: valid", name, i)
			}
		}
	}
}

// P5.1: of all orders of a few statements only one is that of a store.
func TestOnlyOneOrder(t *testing.T) {
	s := mixed()
	for i := range s.Statements {
		for j := range i {
			l := slices.Clone(s.Statements)
			l[i], l[j] = l[j], l[i]
			if Valid(api.Store{Statements: l}) {
				t.Errorf("valid with %d and %d exchanged", j, i)
			}
		}
		l := slices.Insert(slices.Clone(s.Statements), i, s.Statements[i])
		if Valid(api.Store{Statements: l}) {
			t.Errorf("valid with %d twice", i)
		}
	}
}

// P5.1, R8: the author comes before the number, the number before the digest, and nothing else matters; digests are unsigned.
func TestOrder(t *testing.T) {
	low, high := lowAndHigh(func(i int) api.Statement { return first(me, i, i) })
	if !Valid(api.Store{Statements: list(low, high)}) || Valid(api.Store{Statements: list(high, low)}) {
		t.Error("digests are not compared as unsigned numbers")
	}
	// Each pair once with the lesser digest first and once with the greater one: it does not matter.
	for i := range 20 {
		a := first(me, 90-i, i)
		b := first(me+1, i, i)
		c := behind(a, 1, i)
		for _, pair := range [][]api.Statement{{a, b}, {a, c}, {c, b}} {
			if !Valid(api.Store{Statements: pair}) || Valid(api.Store{Statements: list(pair[1], pair[0])}) {
				t.Errorf("the order of %s", brief(pair))
			}
		}
	}
}

// lowAndHigh are two of many statements: one whose digest begins with a low byte, and one with a high byte.
func lowAndHigh(make func(int) api.Statement) (low, high api.Statement) {
	for i := range 100 {
		if s := make(i); s.Seal.Digest[0] < 0x80 {
			low = s
		} else {
			high = s
		}
	}
	return low, high
}

// P5.1: a statement is added at its place, wherever that is.
func TestAddAtEachPlace(t *testing.T) {
	s := mixed()
	for i, x := range s.Statements {
		rest := api.Store{Statements: without(s.Statements, i)}
		got := expectAdd(t, "a statement that is missing", rest, x, s, true, api.OK)
		expectStore(t, "a statement that is missing", got, s)
		expectAdd(t, "once more", got, x, s, false, api.OK)
	}
	x := first(me, 1, 1)
	for name, empty := range map[string]api.Store{"nil": {}, "empty": {Statements: list()}} {
		got := expectAdd(t, name, empty, x, api.Store{Statements: list(x)}, true, api.OK)
		expectStore(t, name, got, api.Store{Statements: list(x)})
	}
}

// P5.1: whatever the order in which statements are added, the store is the same; each one is new but once.
func TestAddInAnyOrder(t *testing.T) {
	r := rand.New(rand.NewSource(1))
	s := mixed()
	for range 20 {
		var got api.Store
		for _, x := range shuffled(r, together(s.Statements, s.Statements)) {
			there := slices.ContainsFunc(got.Statements, func(y api.Statement) bool { return statement.Same(x, y) })
			next, added, err := Add(got, x)
			if err != api.OK || added == there || Valid(next) != true {
				t.Errorf("to %s is added %s: %v, error %d", brief(got.Statements), brief(list(x)), added, err)
			}
			got = next
		}
		expectStore(t, "all of them", got, s)
	}
}

// P5.1: a statement that is there is not added, also if it has empty lists where that one has nil.
func TestAddWhatIsThere(t *testing.T) {
	l := chained(me, 2)
	s := storeOf(l, list(resignation(l[1])))
	for _, x := range s.Statements {
		expectAdd(t, "it is there", s, x, s, false, api.OK)
		if x.List == nil {
			x.List = []int{}
		}
		x.Pins = []api.Pin{}
		expectAdd(t, "it is there with empty lists", s, x, s, false, api.OK)
	}
}

// P5.1: another face of a statement that is there is added, whatever it says, and a statement that follows nothing.
func TestAddFaces(t *testing.T) {
	l := chained(me, 3)
	s := storeOf(l)
	for name, x := range map[string]api.Statement{
		"another value":   resealed(l[1], func(s *api.Statement) { s.A++ }),
		"another time":    resealed(l[1], func(s *api.Statement) { s.Time = 0 }),
		"another kind":    resealed(l[1], func(s *api.Statement) { s.Kind++ }),
		"another list":    resealed(l[1], func(s *api.Statement) { s.List = nil }),
		"another body":    resealed(l[1], func(s *api.Statement) { s.Body = "b" }),
		"behind a gap":    behind(behind(l[2], 1, 9), 1, 9),
		"a first one":     first(me, 0, 77),
		"somebody else's": resealed(l[1], func(s *api.Statement) { s.Author++ }),
		"a greatest one":  resealed(l[1], func(s *api.Statement) { s.Author, s.Number = 63, 199 }),
		"a resignation":   resignation(l[0]),
		"the author 0's":  first(0, 1, 1),
		"behind the row":  behind(l[2], 1, 5),
		"another Prev":    resealed(l[2], func(s *api.Statement) { s.Prev = l[0].Seal.Digest }),
	} {
		want := storeOf(l, list(x))
		expectStore(t, name, expectAdd(t, name, s, x, want, true, api.OK), want)
	}
}

// P5.1: the errors of Add, each with the store as it was, in their order.
func TestAddErrors(t *testing.T) {
	l := chained(me, 3)
	fine := behind(l[2], 1, 4)
	for name, s := range invalid() {
		for _, x := range list(fine, l[0], api.Statement{}, badSeals(fine)["no seal"], first(1, 1, 1)) {
			expectAdd(t, name, s, x, s, false, api.ErrForm)
		}
	}
	full := fullStore()
	for _, s := range []api.Store{{}, storeOf(l), storeOf(l, list(fine)), mixed(), full} {
		for name, wrong := range unfit(fine) {
			expectAdd(t, name, s, wrong.statement, s, false, wrong.err)
		}
		// What is wrong with a statement comes before what is wrong with its seal.
		unsealed := fine
		unsealed.B, unsealed.Seal = -1, api.Seal{}
		expectAdd(t, "a value and no seal", s, unsealed, s, false, api.ErrRange)
	}
}

// P5.1: nothing is added to a full store, but what is there is there, and what is wrong is wrong.
func TestAddToAFullStore(t *testing.T) {
	full := fullStore()
	nearly := api.Store{Statements: without(full.Statements, 300)}
	got := expectAdd(t, "the last place", nearly, full.Statements[300], full, true, api.OK)
	expectStore(t, "the last place", got, full)
	for _, x := range list(first(63, 1, 1), first(0, 1, 1), full.Statements[300], full.Statements[0], full.Statements[999]) {
		there := slices.ContainsFunc(full.Statements, func(y api.Statement) bool { return statement.Same(x, y) })
		if there {
			expectAdd(t, "it is there", full, x, full, false, api.OK)
		} else {
			expectAdd(t, "the store is full", full, x, full, false, api.ErrLimit)
		}
		for name, wrong := range badSeals(x) {
			expectAdd(t, name, full, wrong, full, false, api.ErrSeal)
		}
	}
	over := api.Store{Statements: together(full.Statements, list(first(63, 1, 1)))}
	expectAdd(t, "more than full", over, full.Statements[0], over, false, api.ErrForm)
}

// R4: stores that have one in common do not write over each other.
func TestAddTwiceToOne(t *testing.T) {
	l := chained(me, 3)
	s := storeOf(l)
	for i := range 5 {
		s, _, _ = Add(s, first(me+1, 1, i))
	}
	kept := slices.Clone(s.Statements)
	x, y := first(63, 1, 1), first(63, 1, 2)
	a, _, _ := Add(s, x)
	b, _, _ := Add(s, y)
	expectStore(t, "the first one", a, storeOf(kept, list(x)))
	expectStore(t, "the second one", b, storeOf(kept, list(y)))
	expectStore(t, "the one before", s, storeOf(kept))
}

// P5.1: Merge has the statements of both, each once.
func TestMerge(t *testing.T) {
	l, other := chained(me, 4), chained(me+1, 3)
	face := behind(l[1], 1, 9)
	for name, c := range map[string][2][]api.Statement{
		"nothing":                {nil, nil},
		"with nothing":           {l, nil},
		"with nothing, empty":    {l, list()},
		"with itself":            {l, l},
		"one behind the other":   {l[:2], l[2:]},
		"overlapping":            {l[:3], l[1:]},
		"one within the other":   {l, l[1:3]},
		"two authors":            {l, other},
		"two mixed":              {together(l[:1], other[1:]), together(l[2:], other[:2])},
		"two faces":              {l, together(l[:2], list(face))},
		"two faces of the first": {list(first(me, 1, 1)), list(first(me, 1, 2))},
	} {
		expectMerge(t, name, storeOf(c[0]), storeOf(c[1]), storeOf(c[0], c[1]), api.OK)
	}
	s := mixed()
	for i := range len(s.Statements) {
		a, b := api.Store{Statements: s.Statements[:i]}, api.Store{Statements: s.Statements[i:]}
		expectMerge(t, "in two parts", a, b, s, api.OK)
		expectMerge(t, "with a part", s, a, s, api.OK)
		expectMerge(t, "with a part", s, b, s, api.OK)
	}
}

// P5.1: copies are the same with empty lists and nil.
func TestMergeCopies(t *testing.T) {
	l := chained(me, 2)
	l = append(l, resignation(l[1]))
	again := slices.Clone(l)
	for i := range again {
		again[i].Pins = []api.Pin{}
	}
	again[2].List = []int{}
	expectMerge(t, "copies", api.Store{Statements: l}, api.Store{Statements: again}, api.Store{Statements: l}, api.OK)
}

// P5.1: a merge can be full, but not more: ErrLimit counts what is there twice only once.
func TestMergeOfFullStores(t *testing.T) {
	full := fullStore().Statements
	part := func(from, to int) api.Store { return api.Store{Statements: full[from:to]} }
	whole, more := part(0, 1000), storeOf(list(first(63, 1, 1)))
	expectMerge(t, "two halves", part(0, 500), part(500, 1000), whole, api.OK)
	expectMerge(t, "overlapping", part(0, 900), part(100, 1000), whole, api.OK)
	expectMerge(t, "with itself", whole, whole, whole, api.OK)
	expectMerge(t, "with nothing", whole, api.Store{}, whole, api.OK)
	expectMerge(t, "one place left", part(0, 999), more, storeOf(full[:999], more.Statements), api.OK)
	expectMerge(t, "no place left", whole, more, api.Store{}, api.ErrLimit)
	expectMerge(t, "no place left", part(1, 1000), storeOf(full[:1], more.Statements), api.Store{}, api.ErrLimit)
	expectMerge(t, "many too many", whole, storeOf(chained(63, 200)), api.Store{}, api.ErrLimit)
}

// P5.1: ErrForm, before ErrLimit, if one of both is not valid.
func TestMergeOfInvalidStores(t *testing.T) {
	full := fullStore()
	for name, s := range invalid() {
		for _, other := range []api.Store{{}, mixed(), full, s} {
			expectMerge(t, name, s, other, api.Store{}, api.ErrForm)
		}
	}
}
