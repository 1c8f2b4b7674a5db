package sync

import (
	"math"
	"slices"
	"strconv"
	"strings"
	"testing"

	"trustflow/api"
	"trustflow/sample"
	"trustflow/statement"
	"trustflow/store"
	"trustflow/vector"
)

// me and you are the members of most of these tests.
const (
	me  = 5
	you = 7
)

// outside are numbers that are no keys.
var outside = []int{-1, api.MaxKeys, 1 << 40, math.MinInt, math.MaxInt}

// list is statements as a list.
func list(s ...api.Statement) []api.Statement { return s }

// together are several lists as one, in new memory.
func together(lists ...[]api.Statement) []api.Statement { return slices.Concat(lists...) }

// peer is a member who has the statements of several lists.
func peer(key int, lists ...[]api.Statement) api.Peer {
	return api.Peer{Me: key, Store: sample.Store(lists...)}
}

// full is a member who has so many statements fewer than a store can have: those of keys from 30 on.
func full(key, fewer int) api.Peer {
	var l []api.Statement
	for author := 30; author < 35; author++ {
		l = append(l, sample.Row(author, api.MaxChain)...)
	}
	return peer(key, l[:api.MaxStatements-fewer])
}

// mixed are statements of all kinds: rows, a fork, a gap, a resignation with one past it, one without anything before it.
func mixed() []api.Statement {
	a, b, c, d := sample.Row(0, 3), sample.Row(me, 4), sample.Row(you, 3), sample.Row(20, 5)
	end := sample.After(c[2], api.KindResign, 0)
	return together(a, b, c, list(end, sample.After(end, api.KindOther, 1)), d[:2], d[3:], list(sample.Said(40, 1, 1), sample.Said(40, 1, 2), sample.Said(63, 9, 1)))
}

// given is the message in which one member gives statements to another one.
func given(from, to int, lists ...[]api.Statement) api.Message {
	return api.Message{From: from, To: to, Kind: api.MessageGive, Statements: together(lists...)}
}

// offered is the message in which one member offers heads to another one.
func offered(from, to int, heads ...api.Head) api.Message {
	return api.Message{From: from, To: to, Kind: api.MessageOffer, Heads: heads}
}

// whole is a head without faults, though no store has it.
func whole(author int) api.Head {
	return api.Head{Author: author, Height: 3, Digest: strings.Repeat("d", 32), Sum: strings.Repeat("s", 32)}
}

// changed is a statement with a change, and the seal that it had before.
func changed(s api.Statement, change func(*api.Statement)) api.Statement {
	change(&s)
	return s
}

// passedOver are statements that no store can have, each for one reason.
func passedOver() map[string]api.Statement {
	s := sample.Said(me, 1, 7)
	all := map[string]api.Statement{
		"the zero statement":   {},
		"no seal":              changed(s, func(s *api.Statement) { s.Seal = api.Seal{} }),
		"another key's seal":   changed(s, func(s *api.Statement) { s.Seal.Key++ }),
		"another digest":       changed(s, func(s *api.Statement) { s.Seal.Digest = sample.Said(me, 1, 8).Seal.Digest }),
		"a shorter digest":     changed(s, func(s *api.Statement) { s.Seal.Digest = s.Seal.Digest[:31] }),
		"what was not sealed":  changed(s, func(s *api.Statement) { s.A++ }),
		"under another's name": changed(s, func(s *api.Statement) { s.Author++ }),
	}
	for name, change := range map[string]func(*api.Statement){
		"no key":           func(s *api.Statement) { s.Author = api.MaxKeys },
		"a negative key":   func(s *api.Statement) { s.Author = -1 },
		"no kind":          func(s *api.Statement) { s.Kind = 9 },
		"a negative time":  func(s *api.Statement) { s.Time = -1 },
		"no number":        func(s *api.Statement) { s.Number = api.MaxChain },
		"a value":          func(s *api.Statement) { s.A = api.MaxValue + 1 },
		"a long list":      func(s *api.Statement) { s.List = make([]int, api.MaxList+1) },
		"a long body":      func(s *api.Statement) { s.Body = strings.Repeat("b", api.MaxBody+1) },
		"nothing before":   func(s *api.Statement) { s.Prev = "" },
		"a vouch for self": func(s *api.Statement) { s.Kind, s.A, s.B, s.C = api.KindVouch, me, 1, 50 },
	} {
		all[name] = statement.Seal(changed(s, change))
	}
	return all
}

// isList reports whether two lists of statements are equal.
func isList(a, b []api.Statement) bool { return slices.EqualFunc(a, b, statement.Same) }

// isPeer reports whether two peers are equal.
func isPeer(a, b api.Peer) bool {
	return a.Me == b.Me && isList(a.Store.Statements, b.Store.Statements)
}

// isMessage reports whether two messages are equal.
func isMessage(a, b api.Message) bool {
	return a.From == b.From && a.To == b.To && a.Kind == b.Kind && vector.Same(a.Heads, b.Heads) && isList(a.Statements, b.Statements)
}

// briefList shows how many statements there are, and the first ones of them.
func briefList(l []api.Statement) string {
	return strconv.Itoa(len(l)) + ": " + sample.Brief(l[:min(len(l), 30)])
}

// briefPeer shows a peer.
func briefPeer(p api.Peer) string {
	return strconv.Itoa(p.Me) + " with " + briefList(p.Store.Statements)
}

// briefMessages shows messages.
func briefMessages(l []api.Message) string {
	var b strings.Builder
	for _, m := range l {
		b.WriteString(" kind " + strconv.Itoa(m.Kind) + " from " + strconv.Itoa(m.From) + " to " + strconv.Itoa(m.To))
		b.WriteString(" with " + strconv.Itoa(len(m.Heads)) + " heads and " + briefList(m.Statements))
	}
	return "(" + b.String() + " )"
}

// watched returns a list with room behind it in memory, and a function that reports whether anything there has changed.
func watched(l []api.Statement) ([]api.Statement, func() bool) {
	memory := append(slices.Clone(l), sample.Said(1, 1, 77), sample.Said(2, 2, 77))
	before := slices.Clone(memory)
	return memory[:len(l)], func() bool { return !isList(memory, before) }
}

// expectTake asserts what Take returns, and that the arguments stay as they were, also what stands behind them in memory.
func expectTake(t *testing.T, name string, p api.Peer, m api.Message, want api.Peer, err api.Errno, answers ...api.Message) api.Peer {
	t.Helper()
	var otherStore, otherGive func() bool
	p.Store.Statements, otherStore = watched(p.Store.Statements)
	m.Statements, otherGive = watched(m.Statements)
	heads := slices.Clone(m.Heads)
	got, l, e := Take(p, m)
	if e != err || !isPeer(got, want) {
		t.Errorf("%s: the peer is %s, error %d, want %s and %d", name, briefPeer(got), e, briefPeer(want), err)
	}
	if !slices.EqualFunc(l, answers, isMessage) {
		t.Errorf("%s: the answers are %s, want %s", name, briefMessages(l), briefMessages(answers))
	}
	if otherStore() || otherGive() || !vector.Same(m.Heads, heads) {
		t.Errorf("%s: an argument has changed", name)
	}
	return got
}

// expectSay asserts what Say returns, the statement included if there is one, and that the peer stays as it was.
func expectSay(t *testing.T, name string, p api.Peer, s api.Statement, want api.Peer, err api.Errno, said ...api.Statement) api.Peer {
	t.Helper()
	var other func() bool
	p.Store.Statements, other = watched(p.Store.Statements)
	got, x, e := Say(p, s)
	if e != err || !isPeer(got, want) {
		t.Errorf("%s: the peer is %s, error %d, want %s and %d", name, briefPeer(got), e, briefPeer(want), err)
	}
	if len(said) == 0 {
		said = list(api.Statement{})
	}
	if !statement.Same(x, said[0]) {
		t.Errorf("%s: it said %q, want %q", name, statement.Bytes(x), statement.Bytes(said[0]))
	}
	if other() {
		t.Errorf("%s: the peer has changed", name)
	}
	return got
}

// expectExchange asserts what Exchange returns, and that the peers stay as they were.
func expectExchange(t *testing.T, name string, a, b, wantA, wantB api.Peer, err api.Errno) {
	t.Helper()
	var otherA, otherB func() bool
	a.Store.Statements, otherA = watched(a.Store.Statements)
	b.Store.Statements, otherB = watched(b.Store.Statements)
	gotA, gotB, e := Exchange(a, b)
	if e != err || !isPeer(gotA, wantA) || !isPeer(gotB, wantB) {
		t.Errorf("%s: %s and %s, error %d, want %s and %s, %d", name, briefPeer(gotA), briefPeer(gotB), e, briefPeer(wantA), briefPeer(wantB), err)
	}
	if otherA() || otherB() {
		t.Errorf("%s: a peer has changed", name)
	}
}

// added is a store behind so many calls of store.Add: what cannot be added is passed over.
func added(s api.Store, l []api.Statement) api.Store {
	for _, x := range l {
		s, _, _ = store.Add(s, x)
	}
	return s
}
