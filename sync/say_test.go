package sync

import (
	"math"
	"slices"
	"strings"
	"testing"

	"trustflow/api"
	"trustflow/chain"
	"trustflow/sample"
	"trustflow/statement"
	"trustflow/store"
)

// draft is what is said next in these tests, with a number, an author and a seal that do not matter.
func draft(time int) api.Statement {
	return api.Statement{
		Author: 77, Number: -8, Prev: "before", Seal: api.Seal{Key: 2, Digest: "d"},
		Time: time, Kind: api.KindOther + 2, A: 1, B: 2, C: 3, List: []int{4, 5}, Body: "said",
		Pins: []api.Pin{{Author: 3, Height: 2, Digest: strings.Repeat("d", 32)}},
	}
}

// next is what a peer says who has said a row: the chapter's definition, word by word.
func next(t *testing.T, author int, row []api.Statement, s api.Statement) api.Statement {
	t.Helper()
	s.Author, s.Number, s.Prev = author, len(row), ""
	if len(row) > 0 {
		s.Prev = statement.Digest(row[len(row)-1])
	}
	s = statement.Seal(s)
	if got, err := chain.Next(author, row, s); err != api.OK || !statement.Same(got, s) {
		t.Errorf("%s is not what comes next: error %d", sample.Brief(list(s)), err)
	}
	return s
}

// P8.4: what is said stands behind all that the peer has said, and is in its store with everything else.
func TestSay(t *testing.T) {
	others := together(sample.Row(0, 3), list(sample.Said(40, 1, 1), sample.Said(40, 1, 2)), sample.Row(20, 4)[1:], sample.Row(63, 2))
	for _, key := range []int{1, me, 41, 62} {
		for _, n := range []int{0, 1, 2, 9, 199} {
			row := sample.Row(key, n)
			for _, rest := range [][]api.Statement{nil, others} {
				s := next(t, key, row, draft(500))
				expectSay(t, "a statement", peer(key, row, rest), draft(500), peer(key, row, rest, list(s)), api.OK, s)
			}
		}
	}
}

// P8.4: each kind can be said, also by who does not say anything after it.
func TestSayEachKind(t *testing.T) {
	row := sample.Row(me, 2)
	for _, s := range []api.Statement{
		{Time: 50, Kind: api.KindVouch, A: me + 1, B: 1, C: 50},
		{Time: 50, Kind: api.KindRevoke, A: 1},
		{Time: 50, Kind: api.KindResign},
		{Time: 50, Kind: api.MaxKind},
	} {
		for _, l := range [][]api.Statement{nil, row} {
			said := next(t, me, l, s)
			expectSay(t, "a kind", peer(me, l), s, peer(me, l, list(said)), api.OK, said)
		}
	}
}

// Consequences: whoever only uses Say has a row in which everything counts, up to the greatest number.
func TestSayAllThatIsThere(t *testing.T) {
	for _, key := range []int{0, me, 63} {
		p := peer(key)
		for i := range api.MaxChain {
			q, s, err := Say(p, draft(i/3))
			if err != api.OK || s.Number != i || len(q.Store.Statements) != i+1 {
				t.Fatalf("the statement %d of %d has the number %d, error %d", i, key, s.Number, err)
			}
			p = q
		}
		if !Valid(p) || store.Height(p.Store, key) != api.MaxChain {
			t.Errorf("of %s not everything counts", briefPeer(p))
		}
		expectSay(t, "one too many", p, draft(500), p, api.ErrRange)
	}
}

// P8.4: a store gets full by what is said; then there is no room for more.
func TestSayUntilFull(t *testing.T) {
	p := full(me, 3)
	for i := range 3 {
		s := next(t, me, store.Of(p.Store, me), draft(i))
		p = expectSay(t, "there is room", p, draft(i), api.Peer{Me: me, Store: sample.Store(p.Store.Statements, list(s))}, api.OK, s)
	}
	expectSay(t, "no room", p, draft(5), p, api.ErrLimit)
	expectSay(t, "no room, what is there already", p, draft(2), p, api.ErrLimit)
	expectSay(t, "no room for a first one", full(you, 0), draft(5), full(you, 0), api.ErrLimit)
	expectSay(t, "no room, the time falls", p, draft(1), p, api.ErrTime)
	expectSay(t, "no room, no kind", p, api.Statement{Time: 5, Kind: 9}, p, api.ErrKind)
	expectSay(t, "no room, no kind, nothing said", full(you, 0), api.Statement{Time: 5, Kind: 9}, full(you, 0), api.ErrKind)
}

// confused are rows of statements of me of which not everything counts.
func confused() map[string][]api.Statement {
	l := sample.Row(me, 6)
	end := sample.After(l[5], api.KindResign, 0)
	return map[string][]api.Statement{
		"a fork at the beginning":       together(l, list(sample.Said(me, 0, 9))),
		"nothing but two beginnings":    list(sample.Said(me, 0, 1), sample.Said(me, 0, 2)),
		"a fork in between":             together(l, list(sample.Said(me, 3, 9))),
		"a fork at the end":             together(l, list(sample.Said(me, 5, 9))),
		"a fork far behind":             together(l, list(sample.Said(me, 90, 1), sample.Said(me, 90, 2))),
		"a fork of two that follow":     together(l, list(sample.After(l[4], api.KindOther, 9))),
		"two resignations":              together(l, list(end, statement.Seal(changed(end, func(s *api.Statement) { s.Time++ })))),
		"no beginning":                  l[1:],
		"nothing but the greatest":      list(sample.Said(me, api.MaxChain-1, 1)),
		"a gap":                         together(l[:2], l[3:]),
		"a gap before the last one":     together(l[:4], l[5:]),
		"one that follows nothing":      together(l, list(sample.Said(me, 6, 9))),
		"one far behind":                together(l, list(sample.Said(me, 150, 9))),
		"one past a resignation":        together(l, list(end, sample.After(end, api.KindOther, 1))),
		"nothing but a resignation":     list(end),
		"a resignation after a gap":     together(l[:3], list(end)),
		"a fork, and one past the end ": together(l, list(end, sample.After(end, api.KindOther, 1), sample.Said(me, 2, 9))),
	}
}

// P8.4: with a fork, or with a statement that does not count, of its own a peer cannot speak; those of others do not matter.
func TestSayByForkedPeers(t *testing.T) {
	for name, l := range confused() {
		expectSay(t, name, peer(me, l), draft(500), peer(me, l), api.ErrFork)
		expectSay(t, name+", among others", peer(me, l, sample.Row(me-1, 3), sample.Row(me+1, 3)), draft(500), peer(me, l, sample.Row(me-1, 3), sample.Row(me+1, 3)), api.ErrFork)
		// It comes before all that is wrong with what is said, and before the lack of room.
		for _, s := range []api.Statement{{}, {Time: -1}, draft(0), draft(api.MaxTime + 1), {Time: 500, Kind: 9}} {
			expectSay(t, name+", and a bad draft", peer(me, l), s, peer(me, l), api.ErrFork)
		}
		p := api.Peer{Me: me, Store: sample.Store(full(me, len(l)).Store.Statements, l)}
		expectSay(t, name+", and no room", p, draft(500), p, api.ErrFork)
		for _, key := range []int{me - 1, me + 1, 20} {
			s := next(t, key, sample.Row(key, 3), draft(500))
			expectSay(t, name+", of somebody else", peer(key, l, sample.Row(key, 3)), draft(500), peer(key, l, sample.Row(key, 3), list(s)), api.OK, s)
		}
	}
}

// P8.4: the errors of chain.Next, in their order.
func TestSayWhatDoesNotFollow(t *testing.T) {
	row := sample.Row(me, 3)
	gone := together(row, list(sample.After(row[2], api.KindResign, 0)))
	last := row[2].Time
	for name, c := range map[string]struct {
		row  []api.Statement
		said api.Statement
		err  api.Errno
	}{
		"the time falls":                        {row, draft(last - 1), api.ErrTime},
		"a negative time":                       {row, draft(-1), api.ErrTime},
		"a negative time, nothing said":         {nil, draft(-1), api.ErrTime},
		"too late":                              {row, draft(api.MaxTime + 1), api.ErrTime},
		"the time falls, and no kind":           {row, api.Statement{Time: last - 1, Kind: 9}, api.ErrTime},
		"behind a resignation":                  {gone, draft(500), api.ErrKind},
		"behind a resignation, too late":        {gone, draft(api.MaxTime + 1), api.ErrKind},
		"behind a resignation, another":         {gone, api.Statement{Time: 500, Kind: api.KindResign}, api.ErrKind},
		"behind a resignation, the time falls":  {gone, draft(last), api.ErrTime},
		"no kind":                               {row, api.Statement{Time: 500, Kind: 9}, api.ErrKind},
		"the zero statement, nothing said":      {nil, api.Statement{}, api.ErrKind},
		"a value":                               {row, api.Statement{Time: 500, Kind: 10, A: -1}, api.ErrRange},
		"a great value":                         {nil, api.Statement{Time: 500, Kind: 10, A: math.MaxInt}, api.ErrRange},
		"a vouch for oneself":                   {row, api.Statement{Time: 500, Kind: api.KindVouch, A: me, B: 1, C: 600}, api.ErrRange},
		"a vouch that ends before":              {row, api.Statement{Time: 500, Kind: api.KindVouch, A: you, B: 1, C: 499}, api.ErrRange},
		"a long list":                           {row, api.Statement{Time: 500, Kind: 10, List: make([]int, api.MaxList+1)}, api.ErrLimit},
		"a long body":                           {nil, api.Statement{Time: 500, Kind: 10, Body: strings.Repeat("b", api.MaxBody+1)}, api.ErrLimit},
		"a pin that is none":                    {row, api.Statement{Time: 500, Kind: 10, Pins: []api.Pin{{}}}, api.ErrForm},
		"a vouch with a body":                   {row, api.Statement{Time: 500, Kind: api.KindVouch, A: you, B: 1, C: 600, Body: "b"}, api.ErrForm},
		"a value, where there are no more ones": {sample.Row(me, api.MaxChain), api.Statement{Time: 500, Kind: 10, Pins: []api.Pin{{}}}, api.ErrRange},
	} {
		expectSay(t, name, peer(me, c.row), c.said, peer(me, c.row), c.err)
		expectSay(t, name+", among others", peer(me, c.row, mixedOthers()), c.said, peer(me, c.row, mixedOthers()), c.err)
	}
	for _, time := range []int{last, last + 1, api.MaxTime} {
		s := next(t, me, row, draft(time))
		expectSay(t, "in time", peer(me, row), draft(time), peer(me, row, list(s)), api.OK, s)
	}
	vouch := api.Statement{Author: you, Time: 500, Kind: api.KindVouch, A: you, B: 1, C: 600}
	s := next(t, me, row, vouch)
	expectSay(t, "a vouch for whom the draft names as its author", peer(me, row), vouch, peer(me, row, list(s)), api.OK, s)
}

// mixedOthers are statements of all kinds of other members than me.
func mixedOthers() []api.Statement {
	return slices.DeleteFunc(mixed(), func(s api.Statement) bool { return s.Author == me })
}

// P8.4: a peer that is not valid says nothing, whatever else is wrong.
func TestSayByInvalidPeers(t *testing.T) {
	for name, p := range wildPeers() {
		for _, s := range []api.Statement{draft(500), {}, {Time: -1, Kind: 9}} {
			expectSay(t, name, p, s, p, api.ErrForm)
		}
	}
	forked := api.Peer{Me: -1, Store: sample.Store(list(sample.Said(me, 0, 1), sample.Said(me, 0, 2)))}
	expectSay(t, "no key, and a fork", forked, draft(500), forked, api.ErrForm)
}
