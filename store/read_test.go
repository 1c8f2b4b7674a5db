package store

import (
	"slices"
	"strings"
	"testing"

	"trustflow/api"
	"trustflow/statement"
)

// expectRead asserts what a store has and what counts of an author in it, and that the store stays as it was.
func expectRead(t *testing.T, name string, s api.Store, author int, of, counted []api.Statement) {
	t.Helper()
	given, whole := roomy(s)
	memory := slices.Clone(whole)
	if got := Of(given, author); !isList(got, of) {
		t.Errorf("%s: of %d there is %s, want %s", name, author, brief(got), brief(of))
	}
	if got := Height(given, author); got != len(counted) {
		t.Errorf("%s: the height of %d is %d, want %d", name, author, got, len(counted))
	}
	row := only(Counted(given), func(x api.Statement) bool { return x.Author == author })
	if !isList(row, counted) {
		t.Errorf("%s: of %d counts %s, want %s", name, author, brief(row), brief(counted))
	}
	if !isList(whole, memory) {
		t.Errorf("%s: the store has changed", name)
	}
}

// expectCounted asserts all that counts in a store, and its pins; and that the store stays as it was.
func expectCounted(t *testing.T, name string, s api.Store, want ...[]api.Statement) {
	t.Helper()
	given, whole := roomy(s)
	memory := slices.Clone(whole)
	if got := Counted(given); !isList(got, together(want...)) {
		t.Errorf("%s: %s counts, want %s", name, brief(got), brief(together(want...)))
	}
	var pins []api.Pin
	for _, l := range want {
		pins = append(pins, pinOf(l))
	}
	if got := Pins(given); !slices.Equal(got, pins) {
		t.Errorf("%s: the pins are %v, want %v", name, got, pins)
	}
	if got, err := Pinned(given, pins); err != api.OK || !isList(got, together(want...)) {
		t.Errorf("%s: %s is pinned, error %d", name, brief(got), err)
	}
	if !isList(whole, memory) {
		t.Errorf("%s: the store has changed", name)
	}
}

// pinOf is the pin of a row of statements.
func pinOf(l []api.Statement) api.Pin {
	last := l[len(l)-1]
	return api.Pin{Author: last.Author, Height: len(l), Digest: statement.Digest(last)}
}

// expectPinned asserts what pins name, and that the arguments stay as they were.
func expectPinned(t *testing.T, name string, s api.Store, pins []api.Pin, want []api.Statement, err api.Errno) {
	t.Helper()
	given, whole := roomy(s)
	memory, said := slices.Clone(whole), slices.Clone(pins)
	got, e := Pinned(given, pins)
	if e != err || !isList(got, want) {
		t.Errorf("%s: %s is pinned, error %d, want %s and %d", name, brief(got), e, brief(want), err)
	}
	if !isList(whole, memory) || !slices.Equal(pins, said) {
		t.Errorf("%s: an argument has changed", name)
	}
}

// P5.2: what a store has of each author, and what counts of it.
func TestRead(t *testing.T) {
	s := mixed()
	fifth := Of(s, me)
	if len(fifth) != 6 {
		t.Fatalf("of %d there are %d statements", me, len(fifth))
	}
	expectRead(t, "a row", s, 0, chained(0, 3), chained(0, 3))
	expectRead(t, "a fork", s, me, sorted(fifth), chained(me, 2))
	end := resignation(chained(20, 2)[1])
	expectRead(t, "a resignation", s, 20, together(chained(20, 2), list(end, behind(end, 1, 72))), together(chained(20, 2), list(end)))
	expectRead(t, "a gap", s, 40, without(chained(40, 5), 2), chained(40, 2))
	expectRead(t, "a fork of the first", s, 63, sorted(list(first(63, 1, 1), first(63, 1, 2))), nil)
	for _, author := range append(slices.Clone(nobody), 1, me-1, me+1, 62) {
		expectRead(t, "somebody else", s, author, nil, nil)
		expectRead(t, "nothing", api.Store{}, author, nil, nil)
		expectRead(t, "nothing, empty", api.Store{Statements: list()}, author, nil, nil)
	}
}

// P5.2: the forks of an author stand in what it has in the order of their digests, each face once.
func TestOfManyFaces(t *testing.T) {
	s := storeOf(faces(30), chained(me-1, 2), chained(me+1, 2))
	expectRead(t, "many faces", s, me, faces(30), nil)
	expectRead(t, "the author before", s, me-1, chained(me-1, 2), chained(me-1, 2))
	expectRead(t, "the author behind", s, me+1, chained(me+1, 2), chained(me+1, 2))
}

// P5.2, P5.3: what counts, and the pins, are by author and number.
func TestCounted(t *testing.T) {
	end := resignation(chained(20, 2)[1])
	expectCounted(t, "mixed", mixed(), chained(0, 3), chained(me, 2), together(chained(20, 2), list(end)), chained(40, 2))
	expectCounted(t, "nothing", api.Store{})
	expectCounted(t, "one row", storeOf(chained(me, 4)), chained(me, 4))
	expectCounted(t, "rows of the first and the last key", storeOf(chained(0, 3), chained(63, 2)), chained(0, 3), chained(63, 2))
	expectCounted(t, "no beginning", storeOf(chained(me, 4)[1:]))
	expectCounted(t, "full", fullStore(), chained(0, 200), chained(2, 200), chained(4, 200), chained(6, 200), chained(8, 200))
	var rows [][]api.Statement
	for _, s := range everybody().Statements {
		rows = append(rows, list(s))
	}
	expectCounted(t, "all authors", everybody(), rows...)
}

// P5.2, P5.3: the chapter's example.
func TestExample(t *testing.T) {
	s := storeOf(list(first(me, 1, 1), first(me, 1, 2)), chained(7, 2))
	if h := Height(s, me); h != 0 {
		t.Errorf("the height is %d", h)
	}
	expectCounted(t, "the example", s, chained(7, 2))
}

// P5.3: pins name branches, whether they count or not: through forks, past resignations, and shorter ones.
func TestPinned(t *testing.T) {
	s := mixed()
	faces := only(Of(s, me), func(x api.Statement) bool { return x.Number == 3 })
	for _, x := range faces {
		branch := together(chained(me, 2), only(Of(s, me), func(y api.Statement) bool { return statement.Digest(y) == x.Prev }), list(x))
		expectPinned(t, "a face", s, []api.Pin{pinOf(branch)}, branch, api.OK)
		expectPinned(t, "a face, shorter", s, []api.Pin{pinOf(branch[:3])}, branch[:3], api.OK)
	}
	end := resignation(chained(20, 2)[1])
	past := together(chained(20, 2), list(end, behind(end, 1, 72)))
	rows := [][]api.Statement{chained(0, 2), chained(me, 2), past, chained(40, 1), list(first(63, 1, 2))}
	var pins []api.Pin
	for _, l := range rows {
		pins = append(pins, pinOf(l))
	}
	expectPinned(t, "several", s, pins, together(rows...), api.OK)
	for i := range pins {
		expectPinned(t, "some", s, pins[i:], together(rows[i:]...), api.OK)
	}
	expectPinned(t, "no pins", s, nil, nil, api.OK)
	expectPinned(t, "no pins, empty", s, []api.Pin{}, nil, api.OK)
	expectPinned(t, "no pins, no store", api.Store{}, nil, nil, api.OK)
}

// P5.3: as many pins and as high ones as are permitted.
func TestPinnedMost(t *testing.T) {
	var pins []api.Pin
	for _, s := range everybody().Statements {
		pins = append(pins, pinOf(list(s)))
	}
	expectPinned(t, "all authors", everybody(), pins, everybody().Statements, api.OK)
	expectPinned(t, "the highest", fullStore(), []api.Pin{pinOf(chained(4, 200))}, chained(4, 200), api.OK)
}

// P5.3: ErrNone, if a branch is not there, or has another number of statements.
func TestPinnedNone(t *testing.T) {
	s := mixed()
	l := chained(me, 2)
	pin := pinOf(l)
	for name, change := range map[string]func(*api.Pin){
		"too low":                 func(p *api.Pin) { p.Height-- },
		"too high":                func(p *api.Pin) { p.Height++ },
		"much too high":           func(p *api.Pin) { p.Height = api.MaxChain },
		"another digest":          func(p *api.Pin) { p.Digest = strings.Repeat("d", 32) },
		"another statement's":     func(p *api.Pin) { p.Digest = l[0].Seal.Digest },
		"what is not there":       func(p *api.Pin) { *p = pinOf(append(slices.Clone(l), behind(l[1], 3, 3))) },
		"another author":          func(p *api.Pin) { p.Author = 20 },
		"an author of nothing":    func(p *api.Pin) { p.Author = 1 },
		"another author's digest": func(p *api.Pin) { p.Digest = chained(20, 2)[1].Seal.Digest },
		"behind a gap":            func(p *api.Pin) { *p = pinOf(chained(40, 5)) },
		"behind a gap, shorter":   func(p *api.Pin) { *p = pinOf(chained(40, 5)); p.Height = 2 },
	} {
		wrong := pin
		change(&wrong)
		expectPinned(t, name, s, []api.Pin{wrong}, nil, api.ErrNone)
		expectPinned(t, name+", behind a right one", s, []api.Pin{pinOf(chained(0, 1)), wrong}, nil, api.ErrNone)
		expectPinned(t, name+", before a right one", s, []api.Pin{wrong, pinOf(list(first(63, 1, 1)))}, nil, api.ErrNone)
		expectPinned(t, name+", in an empty store", api.Store{}, []api.Pin{wrong}, nil, api.ErrNone)
	}
}

// P5.3: ErrForm, before ErrNone, if the pins are not as in a well formed statement.
func TestPinnedWithoutForm(t *testing.T) {
	s := storeOf(chained(0, 2), chained(me, 3), chained(63, 2))
	right := pinOf(chained(me, 3))
	for name, change := range map[string]func(*api.Pin){
		"a negative author": func(p *api.Pin) { p.Author = -1 },
		"no key":            func(p *api.Pin) { p.Author = api.MaxKeys },
		"no height":         func(p *api.Pin) { p.Height = 0 },
		"a negative height": func(p *api.Pin) { p.Height = -3 },
		"too high":          func(p *api.Pin) { p.Height = api.MaxChain + 1 },
		"no digest":         func(p *api.Pin) { p.Digest = "" },
		"a shorter digest":  func(p *api.Pin) { p.Digest = p.Digest[:31] },
		"a longer digest":   func(p *api.Pin) { p.Digest += "\x00" },
	} {
		wrong := right
		change(&wrong)
		expectPinned(t, name, s, []api.Pin{wrong}, nil, api.ErrForm)
		expectPinned(t, name+", behind another one", s, []api.Pin{pinOf(chained(0, 2)), wrong}, nil, api.ErrForm)
		expectPinned(t, name+", behind one of nothing", s, []api.Pin{pinOf(chained(1, 1)), wrong}, nil, api.ErrForm)
	}
	last := pinOf(chained(63, 2))
	expectPinned(t, "authors that fall", s, []api.Pin{last, right}, nil, api.ErrForm)
	expectPinned(t, "a pin twice", s, []api.Pin{right, right}, nil, api.ErrForm)
	expectPinned(t, "an author twice", s, []api.Pin{pinOf(chained(me, 2)), right}, nil, api.ErrForm)
	many := make([]api.Pin, 0, api.MaxPins+1)
	for range api.MaxPins + 1 {
		many = append(many, right)
	}
	expectPinned(t, "too many", s, many, nil, api.ErrForm)
}

// P5.3: ErrForm, whatever the pins are, if the store is not valid.
func TestPinnedOfInvalidStores(t *testing.T) {
	for name, s := range invalid() {
		for _, pins := range [][]api.Pin{nil, {pinOf(chained(me, 1))}, {pinOf(chained(1, 1))}, {{}}} {
			expectPinned(t, name, s, pins, nil, api.ErrForm)
		}
	}
}

// P1: what is specified for valid stores alone comes to an end for others too, without a panic.
func TestReadOfInvalidStores(t *testing.T) {
	for _, s := range invalid() {
		for _, author := range append(slices.Clone(nobody), 0, me, 63) {
			Of(s, author)
			Height(s, author)
		}
		Counted(s)
		Pins(s)
	}
}
