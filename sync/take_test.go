package sync

import (
	"math/rand"
	"slices"
	"strconv"
	"strings"
	"testing"

	"trustflow/api"
	"trustflow/sample"
	"trustflow/statement"
	"trustflow/vector"
)

// P8.2: an offer is answered with a give of what is missing there.
func TestTakeOffers(t *testing.T) {
	l, other := sample.Row(me, 5), sample.Row(20, 3)
	p := peer(me, l, other)
	of := func(lists ...[]api.Statement) []api.Head { return vector.Of(sample.Store(lists...)) }
	for name, c := range map[string]struct {
		heads   []api.Head
		missing []api.Statement
	}{
		"no heads":             {nil, together(l, other)},
		"empty heads":          {[]api.Head{}, together(l, other)},
		"a part of a row":      {of(l[:2], other), l[2:]},
		"an author":            {of(l), other},
		"a fork":               {of(l[:2], list(sample.Said(me, 1, 9)), other), l},
		"heads of no store":    {[]api.Head{whole(me), whole(30)}, together(l, other)},
		"others, and a little": {of(l[:4], sample.Row(21, 2)), together(l[4:], other)},
	} {
		for _, from := range []int{0, you, 20, 63} {
			expectTake(t, name, p, offered(from, me, c.heads...), p, api.OK, given(me, from, c.missing))
		}
	}
	forked := peer(me, l, list(sample.Said(me, 2, 9)))
	expectTake(t, "a fork here", forked, offered(you, me, of(l[:2])...), forked, api.OK, given(me, you, forked.Store.Statements))
	many := full(0, 0)
	expectTake(t, "all that a store can have", many, offered(63, 0), many, api.OK, given(0, 63, many.Store.Statements))
}

// P8.2: if nothing is missing there, there is no answer, not even an empty one.
func TestTakeOffersWithoutAnswers(t *testing.T) {
	l := mixed()
	var heads []api.Head
	for author := range api.MaxKeys {
		heads = append(heads, whole(author))
	}
	for name, c := range map[string]struct {
		peer  api.Peer
		heads []api.Head
	}{
		"nothing on both sides":   {peer(me), nil},
		"nothing here":            {peer(me), vector.Of(sample.Store(l))},
		"nothing, and many heads": {peer(me), heads},
		"the same":                {peer(me, l), vector.Of(sample.Store(l))},
		"more there":              {peer(me, l), vector.Of(sample.Store(l, sample.Row(50, 3), sample.Row(62, 1)))},
	} {
		expectTake(t, name, c.peer, offered(you, me, c.heads...), c.peer, api.OK)
	}
}

// P8.2: all kinds of peers and offers, against layer 7.
func TestTakeOffersAgainstTheDefinition(t *testing.T) {
	r := rand.New(rand.NewSource(1))
	answered, silent := 0, 0
	for range 300 {
		all := sample.Tree(me, r.Intn)[:1+r.Intn(9)]
		a, b := sample.Part(r.Intn, all), sample.Part(r.Intn, all)
		p, m := api.Peer{Me: r.Intn(20), Store: a}, offered(20+r.Intn(20), 0, vector.Of(b)...)
		m.To = p.Me
		missing, _ := vector.Missing(a, m.Heads)
		if len(missing) > 0 {
			answered++
			expectTake(t, "an offer", p, m, p, api.OK, given(p.Me, m.From, missing))
		} else {
			silent++
			expectTake(t, "an offer", p, m, p, api.OK)
		}
	}
	if answered < 50 || silent < 50 {
		t.Errorf("the peers show too little: %d answers, %d offers without", answered, silent)
	}
}

// P8.2: what a give has is added, whatever the order, with what was there already; there is no answer.
func TestTakeGives(t *testing.T) {
	l := mixed()
	turned := slices.Clone(l)
	slices.Reverse(turned)
	for name, c := range map[string]struct{ before, give []api.Statement }{
		"nothing":                 {l, nil},
		"nothing for nobody":      {nil, nil},
		"one statement":           {nil, l[3:4]},
		"everything":              {nil, l},
		"turned round":            {nil, turned},
		"all that was there":      {l, l},
		"some that were there":    {l[:9], l[5:]},
		"what stands before":      {l[9:], l[:9]},
		"each one twice":          {l[:2], together(turned, l)},
		"a fork of somebody":      {sample.Row(20, 4), list(sample.Said(20, 2, 9))},
		"a fork of the peer":      {sample.Row(me, 4), list(sample.Said(me, 2, 9))},
		"a row without beginning": {nil, sample.Row(20, 9)[3:]},
		"new ones of the peer":    {sample.Row(me, 2), sample.Row(me, 4)},
		"those of the other":      {nil, sample.Row(you, 4)},
	} {
		for _, from := range []int{0, you, 63} {
			expectTake(t, name, peer(me, c.before), given(from, me, c.give), peer(me, c.before, c.give), api.OK)
		}
	}
}

// P8.2: what is not well formed or not sealed is passed over, and what stands behind it is added.
func TestTakeGivesWithFaults(t *testing.T) {
	s := sample.Said(me, 1, 7)
	row := sample.Row(20, 2)
	var faults []api.Statement
	for name, wrong := range passedOver() {
		faults = append(faults, wrong)
		for _, before := range [][]api.Statement{nil, list(s), row[:1], mixed()} {
			expectTake(t, name, peer(me, before), given(you, me, list(wrong)), peer(me, before), api.OK)
			expectTake(t, name+", among others", peer(me, before), given(you, me, list(row[1], wrong, wrong, row[0])), peer(me, before, row), api.OK)
			// What is not sealed does not stand in the way of the statement whose seal it has.
			expectTake(t, name+", before the right one", peer(me, before), given(you, me, list(wrong, s, wrong)), peer(me, before, list(s)), api.OK)
		}
	}
	expectTake(t, "nothing but faults", peer(me), given(you, me, faults), peer(me), api.OK)
	expectTake(t, "faults where there is no room", full(me, 0), given(you, me, faults), full(me, 0), api.OK)
	expectTake(t, "faults where there is room for one", full(me, 1), given(you, me, faults, row), api.Peer{Me: me, Store: added(full(me, 1).Store, row[:1])}, api.OK)
}

// P8.2: as long as there is room, statements are added in the order of the message, not in that of a store.
func TestTakeGivesUntilFull(t *testing.T) {
	row := sample.Row(you, 6)
	others := list(row[5], row[0], row[5], row[3], row[0], row[1], row[4], row[2])
	inOrder := list(row[5], row[0], row[3], row[1], row[4], row[2])
	for room := range 9 {
		p := full(me, room)
		want := api.Peer{Me: me, Store: sample.Store(p.Store.Statements, inOrder[:min(room, 6)])}
		expectTake(t, "a give", p, given(you, me, others), want, api.OK)
		expectTake(t, "with what is there", p, given(you, me, p.Store.Statements[:300], others, p.Store.Statements[:300]), want, api.OK)
	}
	p := full(me, 0)
	expectTake(t, "a store from nothing", api.Peer{Me: me}, given(you, me, p.Store.Statements), p, api.OK)
	expectTake(t, "what a full store has", p, given(you, me, p.Store.Statements), p, api.OK)
	var faces []api.Statement
	for i := range api.MaxStatements {
		faces = append(faces, sample.Said(40, 3, i))
	}
	expectTake(t, "another full store", full(me, 3), given(you, me, faces), api.Peer{Me: me, Store: sample.Store(full(me, 3).Store.Statements, faces[:3])}, api.OK)
}

// P8.2: all kinds of gives, against the definition: one call of store.Add after the other.
func TestTakeGivesAgainstTheDefinition(t *testing.T) {
	r := rand.New(rand.NewSource(2))
	var faults []api.Statement
	for _, wrong := range passedOver() {
		faults = append(faults, wrong)
	}
	slices.SortFunc(faults, sample.Order)
	for i := range 300 {
		all := sample.Tree(me, r.Intn)
		p := api.Peer{Me: r.Intn(20), Store: sample.Part(r.Intn, all)}
		if i%30 == 0 {
			p = api.Peer{Me: p.Me, Store: sample.Store(full(0, 12).Store.Statements, p.Store.Statements[:min(len(p.Store.Statements), 9)])}
		}
		give := together(all[r.Intn(len(all)):], all, faults[:r.Intn(len(faults))])
		r.Shuffle(len(give), func(i, j int) { give[i], give[j] = give[j], give[i] })
		want := api.Peer{Me: p.Me, Store: added(p.Store, give)}
		expectTake(t, "a give", p, given(20+r.Intn(20), p.Me, give), want, api.OK)
	}
}

// faultyMessages are messages that are not for the member me, or of no kind, each for one reason.
func faultyMessages() map[string]api.Message {
	row := sample.Row(you, 2)
	heads := vector.Of(sample.Store(row))
	many := slices.Repeat(row, api.MaxStatements/2)
	all := map[string]api.Message{
		"the zero message":              {},
		"an offer to somebody else":     offered(you, me+1, heads...),
		"an offer to the sender":        offered(you, you, heads...),
		"an offer of the peer":          offered(me, you, heads...),
		"an offer to oneself":           offered(me, me, heads...),
		"a give to somebody else":       given(you, me+1, row),
		"a give to the sender":          given(you, you, row),
		"a give of the peer":            given(me, you, row),
		"a give to oneself":             given(me, me, row),
		"an offer with a statement":     {From: you, To: me, Kind: api.MessageOffer, Heads: heads, Statements: row[:1]},
		"an offer without, and one":     {From: you, To: me, Kind: api.MessageOffer, Statements: row[:1]},
		"an offer with a bad one":       {From: you, To: me, Kind: api.MessageOffer, Heads: heads, Statements: list(api.Statement{})},
		"an offer of an empty head":     offered(you, me, api.Head{}),
		"an offer without order":        offered(you, me, whole(3), whole(2)),
		"an offer of an author twice":   offered(you, me, whole(3), whole(3)),
		"an offer of no key":            offered(you, me, whole(3), whole(api.MaxKeys)),
		"an offer with a short digest":  offered(you, me, api.Head{Author: 3, Height: 1, Digest: "d", Sum: strings.Repeat("s", 32)}),
		"a give with a head":            {From: you, To: me, Kind: api.MessageGive, Heads: heads, Statements: row},
		"a give with nothing but heads": {From: you, To: me, Kind: api.MessageGive, Heads: heads},
		"a give with a bad head":        {From: you, To: me, Kind: api.MessageGive, Heads: []api.Head{{}}, Statements: row},
		"a give of too many":            given(you, me, many, row[:1]),
		"a give of too many bad ones":   given(you, me, make([]api.Statement, api.MaxStatements+1)),
	}
	for _, kind := range []int{0, 3, -1, 10, 1 << 40} {
		name := "the kind " + strconv.Itoa(kind)
		all[name] = api.Message{From: you, To: me, Kind: kind}
		all[name+" with statements"] = api.Message{From: you, To: me, Kind: kind, Statements: row}
		all[name+" with heads"] = api.Message{From: you, To: me, Kind: kind, Heads: heads}
	}
	for _, key := range outside {
		name := strconv.Itoa(key)
		all["an offer of the member "+name] = offered(key, me, heads...)
		all["an offer to the member "+name] = offered(you, key, heads...)
		all["a give of the member "+name] = given(key, me, row)
		all["a give to the member "+name] = given(you, key, row)
	}
	return all
}

// P8.2: messages that are none, or for somebody else, leave the peer as it was.
func TestTakeNoMessages(t *testing.T) {
	for name, m := range faultyMessages() {
		for _, p := range []api.Peer{peer(me), peer(me, mixed())} {
			expectTake(t, name, p, m, p, api.ErrMessage)
		}
	}
	expectTake(t, "a full store", full(me, 0), given(me, me), full(me, 0), api.ErrMessage)
}

// P8.2: messages at their bounds are right, and empty lists are the same as nil.
func TestTakeMessagesAtTheirBounds(t *testing.T) {
	row := sample.Row(you, 2)
	many := slices.Repeat(row, api.MaxStatements/2)
	expectTake(t, "as many statements as are permitted", peer(me), given(you, me, many), peer(me, row), api.OK)
	expectTake(t, "as many bad ones as are permitted", peer(me), given(you, me, make([]api.Statement, api.MaxStatements)), peer(me), api.OK)
	m := given(you, me, row)
	m.Heads = []api.Head{}
	expectTake(t, "empty heads", peer(me), m, peer(me, row), api.OK)
	m = offered(you, me)
	m.Statements = list()
	expectTake(t, "empty statements", peer(me, row), m, peer(me, row), api.OK, given(me, you, row))
	var heads []api.Head
	for author := range api.MaxKeys {
		heads = append(heads, whole(author))
	}
	expectTake(t, "as many heads as there are keys", peer(me, row), offered(you, me, heads...), peer(me, row), api.OK, given(me, you, row))
	expectTake(t, "one head more", peer(me, row), offered(you, me, append(heads, whole(63))...), peer(me, row), api.ErrMessage)
}

// P8.2: what is wrong with the peer comes before what is wrong with the message, and it stays as it was.
func TestTakeByInvalidPeers(t *testing.T) {
	for name, p := range wildPeers() {
		row := sample.Row(you, 2)
		for _, m := range []api.Message{offered(you, p.Me), given(you, p.Me, row), given(you, p.Me, p.Store.Statements), {}, given(p.Me, p.Me, row)} {
			expectTake(t, name, p, m, p, api.ErrForm)
		}
	}
}

// P1: as many long statements as a store can have take no longer than is to be expected.
func TestTakeManyStatements(t *testing.T) {
	var l []api.Statement
	for i := range api.MaxStatements {
		s := sample.Said(i%api.MaxKeys, i/api.MaxKeys, i)
		s.List, s.Body = make([]int, api.MaxList), strings.Repeat("b", api.MaxBody)
		l = append(l, statement.Seal(s))
	}
	slices.Reverse(l)
	p := expectTake(t, "a great give", peer(me), given(you, me, l), peer(me, l), api.OK)
	expectTake(t, "the same once more", p, given(you, me, l), p, api.OK)
}
