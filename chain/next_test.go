package chain

import (
	"math"
	"slices"
	"strings"
	"testing"

	"trustflow/api"
	"trustflow/statement"
)

// expectNext asserts an error of Next, and that with it there is no statement; the arguments stay as they were.
func expectNext(t *testing.T, name string, author int, chain []api.Statement, s api.Statement, want api.Errno) api.Statement {
	t.Helper()
	before, said := slices.Clone(chain), s
	got, err := Next(author, chain, s)
	if err != want {
		t.Errorf("%s: error %d, want %d", name, err, want)
	}
	if err != api.OK && !statement.Same(got, api.Statement{}) {
		t.Errorf("%s: with an error there is the statement %q", name, statement.Bytes(got))
	}
	if !isRow(chain, before) || !statement.Same(s, said) {
		t.Errorf("%s: an argument has changed", name)
	}
	return got
}

// draft is what is said next in these tests.
func draft(time int) api.Statement {
	return api.Statement{Time: time, Kind: api.KindOther + 2, A: 1, B: 2, C: 3, List: []int{4, 5}, Pins: []api.Pin{{Author: 3, Height: 2, Digest: strings.Repeat("d", 32)}}, Body: "said"}
}

// P4.3: the next statement says what was said, and has its Author, Number, Prev and seal from the chain.
func TestNext(t *testing.T) {
	for _, n := range []int{0, 1, 2, 9, 199} {
		l := row(me, n)
		want := draft(500)
		want.Author, want.Number = me, n
		if n > 0 {
			want.Prev = statement.Digest(l[n-1])
		}
		want = statement.Seal(want)
		odd := draft(500)
		odd.Author, odd.Number, odd.Prev, odd.Seal = 77, -8, "before", api.Seal{Key: 2, Digest: "d"}
		for _, s := range []api.Statement{draft(500), odd} {
			if got := expectNext(t, "the next one", me, l, s, api.OK); !statement.Same(got, want) {
				t.Errorf("the next one behind %d is %q, want %q", n, statement.Bytes(got), statement.Bytes(want))
			}
		}
	}
}

// Consequences: with the result of Next a counted row is one longer.
func TestNextGrows(t *testing.T) {
	for _, author := range []int{0, me, 63} {
		var l []api.Statement
		for i := range api.MaxChain {
			s := expectNext(t, "the next one", author, l, draft(i/3), api.OK)
			l = append(l, s)
			if i < 4 || i > 196 {
				expectCounted(t, "a row that has grown", author, l, l)
			}
		}
		// There is no number for one more.
		expectNext(t, "one too many", author, l, draft(500), api.ErrRange)
	}
}

// P4.3: each kind can be said, also a resignation.
func TestNextOfEachKind(t *testing.T) {
	l := row(me, 2)
	for _, s := range []api.Statement{
		{Time: 50, Kind: api.KindVouch, A: me + 1, B: 1, C: 50},
		{Time: 50, Kind: api.KindRevoke, A: 1},
		{Time: 50, Kind: api.KindResign},
		{Time: 50, Kind: api.MaxKind},
	} {
		got := expectNext(t, "a kind", me, l, s, api.OK)
		expectCounted(t, "a kind", me, append(slices.Clone(l), got), append(slices.Clone(l), got))
		expectNext(t, "a kind, as the first one", me, nil, s, api.OK)
	}
}

// P4.3, R3: an empty chain and nil are the same, and so are empty lists and nil within a chain.
func TestNextOfEmptyLists(t *testing.T) {
	a := expectNext(t, "nil", me, nil, draft(3), api.OK)
	b := expectNext(t, "empty", me, []api.Statement{}, draft(3), api.OK)
	if !statement.Same(a, b) {
		t.Error("an empty chain is unlike nil")
	}
	l := row(me, 3)
	for i := range l {
		l[i].Pins = []api.Pin{}
	}
	expectNext(t, "empty pins", me, l, draft(50), api.OK)
}

// P4.3: ErrForm, for each chain that is not what counts of it.
func TestNextOfNoChain(t *testing.T) {
	l := row(me, 4)
	end := append(slices.Clone(l), resignation(l[3]))
	for name, chain := range map[string][]api.Statement{
		"without the first one":    l[1:],
		"with a gap":               without(l, 2),
		"without order":            list(l[1], l[0]),
		"turned round":             list(l[3], l[2], l[1], l[0]),
		"with a copy":              append(slices.Clone(l), l[3]),
		"with a copy of the first": append(list(l[0]), l...),
		"with a fork":              append(slices.Clone(l), behind(l[2], 1, 99)),
		"past a resignation":       append(end, behind(end[4], 1, 1)),
		"of somebody else":         row(me+1, 4),
		"with somebody else":       append(slices.Clone(l), row(me+1, 1)...),
		"with a falling time":      append(slices.Clone(l), behind(l[3], -1, 1)),
		"zero":                     list(api.Statement{}),
	} {
		expectNext(t, name, me, chain, draft(500), api.ErrForm)
		// It comes before all other errors.
		expectNext(t, name+", and an early time", me, chain, api.Statement{Time: -1}, api.ErrForm)
	}
	for i, s := range l {
		for name, wrong := range passedOver(s) {
			chain := slices.Clone(l)
			chain[i] = wrong
			expectNext(t, name, me, chain, draft(500), api.ErrForm)
		}
	}
	for _, author := range []int{-1, 0, 64, me + 1, math.MinInt, math.MaxInt} {
		expectNext(t, "another author", author, l, draft(500), api.ErrForm)
	}
}

// P4.3: ErrTime, if the time is less than that of the last one.
func TestNextTooEarly(t *testing.T) {
	l := list(first(me, 20, 1))
	l = append(l, behind(l[0], 10, 2))
	for _, time := range []int{30, 31, api.MaxTime} {
		expectNext(t, "in time", me, l, draft(time), api.OK)
	}
	for _, time := range []int{29, 20, 0, -1, math.MinInt} {
		expectNext(t, "too early", me, l, draft(time), api.ErrTime)
		// It comes before what is wrong with the statement itself.
		expectNext(t, "too early, and no kind", me, l, api.Statement{Time: time, Kind: 9}, api.ErrTime)
	}
	for _, time := range []int{0, 19} {
		expectNext(t, "the first one", me, nil, draft(time), api.OK)
	}
}

// P4.3: ErrKind behind a resignation, after ErrTime.
func TestNextBehindAResignation(t *testing.T) {
	l := row(me, 2)
	l = append(l, resignation(l[1]))
	for _, s := range []api.Statement{draft(500), {Time: 500, Kind: api.KindResign}, {Time: 500, Kind: api.KindVouch, A: 1, B: 1, C: 600}, {Time: 500, Kind: 10, A: -1}, {Time: api.MaxTime + 1, Kind: 10}} {
		expectNext(t, "behind a resignation", me, l, s, api.ErrKind)
		s.Time = l[2].Time - 1
		expectNext(t, "behind a resignation, too early", me, l, s, api.ErrTime)
	}
	// A resignation that is not the last one of a chain is no chain, and one that is only said is no resignation before.
	expectNext(t, "a resignation itself", me, l[:2], api.Statement{Time: 500, Kind: api.KindResign}, api.OK)
}

// P4.3: the errors of statement.Check, of the statement as it would be.
func TestNextOfBadStatements(t *testing.T) {
	l := row(me, 2)
	for _, c := range []struct {
		name   string
		want   api.Errno
		change func(*api.Statement)
	}{
		{"no kind", api.ErrKind, func(s *api.Statement) { s.Kind = 9 }},
		{"too late", api.ErrTime, func(s *api.Statement) { s.Time = api.MaxTime + 1 }},
		{"a value", api.ErrRange, func(s *api.Statement) { s.C = -1 }},
		{"an element", api.ErrRange, func(s *api.Statement) { s.List = []int{0, -1} }},
		{"a long list", api.ErrLimit, func(s *api.Statement) { s.List = make([]int, 65) }},
		{"a long body", api.ErrLimit, func(s *api.Statement) { s.Body = strings.Repeat("b", 4097) }},
		{"a pin", api.ErrForm, func(s *api.Statement) { s.Pins = []api.Pin{{}} }},
		{"a vouch for the author", api.ErrRange, func(s *api.Statement) {
			*s = api.Statement{Author: 1, Time: 500, Kind: api.KindVouch, A: me, B: 1, C: 500}
		}},
		{"a vouch with a body", api.ErrForm, func(s *api.Statement) {
			*s = api.Statement{Time: 500, Kind: api.KindVouch, A: 1, B: 1, C: 500, Body: "b"}
		}},
	} {
		s := draft(500)
		c.change(&s)
		expectNext(t, c.name, me, l, s, c.want)
		expectNext(t, c.name+", as the first one", me, nil, s, c.want)
	}
	expectNext(t, "a negative time", me, nil, draft(-1), api.ErrTime)
	// The author that is said before does not matter: only the one that is given.
	s := api.Statement{Author: me, Time: 500, Kind: api.KindVouch, A: 1, B: 1, C: 500}
	expectNext(t, "the author's own key", 1, nil, s, api.ErrRange)
	expectNext(t, "another key", me, nil, s, api.OK)
	for _, author := range []int{-1, 64, math.MinInt, math.MaxInt} {
		expectNext(t, "no key", author, nil, draft(1), api.ErrKey)
		expectNext(t, "no key, and no kind", author, nil, api.Statement{Time: -1}, api.ErrKey)
	}
}
