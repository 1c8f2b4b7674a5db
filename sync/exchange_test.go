package sync

import (
	"math/rand"
	"slices"
	"testing"

	"trustflow/api"
	"trustflow/fork"
	"trustflow/sample"
	"trustflow/statement"
	"trustflow/store"
)

// P8.3: the chapter's example, in both orders.
func TestExchangeExample(t *testing.T) {
	s := sample.Row(1, 1)
	expectExchange(t, "1 and 2", peer(1, s), peer(2), peer(1, s), peer(2, s), api.OK)
	expectExchange(t, "2 and 1", peer(2), peer(1, s), peer(2, s), peer(1, s), api.OK)
}

// P8.3: both have what either one had, also where nothing of it counts.
func TestExchange(t *testing.T) {
	l := sample.Row(20, 6)
	end := sample.After(l[2], api.KindResign, 0)
	for name, c := range map[string]struct{ a, b []api.Statement }{
		"nothing":                     {nil, nil},
		"the same":                    {mixed(), mixed()},
		"all and nothing":             {mixed(), nil},
		"different authors":           {sample.Row(me, 3), sample.Row(you, 2)},
		"parts of one row":            {l[:2], l[:5]},
		"two ends of a row":           {l[:3], l[3:]},
		"a gap that is filled":        {together(l[:2], l[3:]), l[:3]},
		"two gaps":                    {together(l[:2], l[4:]), together(l[:1], l[2:5])},
		"a fork that comes into view": {l, together(l[:3], list(sample.After(l[2], api.KindOther, 9)))},
		"a fork on one side":          {together(l, list(sample.Said(20, 1, 9))), l[:3]},
		"forks on both sides":         {list(l[0], l[1], sample.Said(20, 1, 8)), list(l[0], l[1], sample.Said(20, 1, 9))},
		"a resignation and a row":     {list(l[0], l[1], l[2], end), l},
		"beginnings that are missing": {l[1:3], l[4:]},
		"own statements, forked":      {list(sample.Said(me, 0, 1)), list(sample.Said(me, 0, 2))},
	} {
		expectExchange(t, name, peer(me, c.a), peer(you, c.b), peer(me, c.a, c.b), peer(you, c.a, c.b), api.OK)
		expectExchange(t, name+", turned round", peer(63, c.b), peer(0, c.a), peer(63, c.a, c.b), peer(0, c.a, c.b), api.OK)
	}
}

// byMessages is the definition of Exchange: an offer, its answer, which is taken, and the same the other way round.
func byMessages(t *testing.T, a, b api.Peer) (api.Peer, api.Peer) {
	t.Helper()
	ask := func(p, other api.Peer) api.Peer {
		m, err := Offer(p, other.Me)
		same, answers, e := Take(other, m)
		if err != api.OK || e != api.OK || len(answers) > 1 || !isPeer(same, other) {
			t.Fatalf("%s asks %s: errors %d and %d, answers %s", briefPeer(p), briefPeer(other), err, e, briefMessages(answers))
		}
		for _, give := range answers {
			if p, answers, err = Take(p, give); err != api.OK || len(answers) > 0 {
				t.Fatalf("%s takes %s: error %d, answers %s", briefPeer(p), briefMessages([]api.Message{give}), err, briefMessages(answers))
			}
		}
		return p
	}
	a = ask(a, b)
	return a, ask(b, a)
}

// P8.3, consequences: all kinds of peers, against the definition; both have the merge of their stores then, which another exchange does not change.
func TestExchangeAgainstTheDefinition(t *testing.T) {
	r := rand.New(rand.NewSource(3))
	same, forks := 0, 0
	for range 400 {
		all := sample.Tree(me, r.Intn)[:1+r.Intn(9)]
		a, b := api.Peer{Me: r.Intn(32), Store: sample.Part(r.Intn, all)}, api.Peer{Me: 32 + r.Intn(32), Store: sample.Part(r.Intn, all)}
		wantA, wantB := byMessages(t, a, b)
		both, err := store.Merge(a.Store, b.Store)
		if err != api.OK || !isList(both.Statements, wantA.Store.Statements) || !isList(both.Statements, wantB.Store.Statements) {
			t.Errorf("%s and %s have %s and %s", briefPeer(a), briefPeer(b), briefPeer(wantA), briefPeer(wantB))
		}
		expectExchange(t, "an exchange", a, b, wantA, wantB, api.OK)
		expectExchange(t, "an exchange, turned round", b, a, wantB, wantA, api.OK)
		expectExchange(t, "another exchange", wantA, wantB, wantA, wantB, api.OK)
		if isList(a.Store.Statements, b.Store.Statements) {
			same++
		}
		forks += len(fork.Find(both)) - len(fork.Find(a.Store))
	}
	if same < 10 || forks < 20 {
		t.Errorf("the peers show too little: %d are the same, %d forks came", same, forks)
	}
}

// untilFull is a store with the first statements of a list that it lacks, as many as there is room for.
func untilFull(s api.Store, l []api.Statement) api.Store {
	lacking := slices.DeleteFunc(slices.Clone(l), func(x api.Statement) bool { return contains(s, list(x)) })
	return sample.Store(s.Statements, lacking[:min(len(lacking), api.MaxStatements-len(s.Statements))])
}

// P8.3: where there is not enough room, each one takes what stands first in the other one's answer.
func TestExchangeUntilFull(t *testing.T) {
	l := mixed()
	for room := range 5 {
		a, b := full(me, room), peer(you, l)
		wantA := api.Peer{Me: me, Store: untilFull(a.Store, l)}
		wantB := api.Peer{Me: you, Store: untilFull(sample.Store(l), wantA.Store.Statements)}
		if len(wantA.Store.Statements) != api.MaxStatements || len(wantB.Store.Statements) != api.MaxStatements {
			t.Errorf("with room for %d, the stores do not get full", room)
		}
		gotA, gotB := byMessages(t, a, b)
		if !isPeer(gotA, wantA) || !isPeer(gotB, wantB) {
			t.Errorf("with room for %d, messages lead to %s and %s", room, briefPeer(gotA), briefPeer(gotB))
		}
		expectExchange(t, "an exchange", a, b, wantA, wantB, api.OK)
		expectExchange(t, "an exchange, turned round", b, a, wantB, wantA, api.OK)
	}
	a, b := full(me, 0), full(you, 0)
	expectExchange(t, "two full stores", a, b, a, b, api.OK)
	few := full(you, 0)
	few.Store.Statements = few.Store.Statements[:3]
	expectExchange(t, "a full store, and a part of it", a, few, a, b, api.OK)
}

// P8.3: both peers have to be valid, then they have to be two; with an error both stay as they were.
func TestExchangeErrors(t *testing.T) {
	good := peer(you, mixed())
	for name, p := range wildPeers() {
		expectExchange(t, name, p, good, p, good, api.ErrForm)
		expectExchange(t, name+", as the second", good, p, good, p, api.ErrForm)
		same := api.Peer{Me: p.Me, Store: sample.Store(sample.Row(1, 2))}
		expectExchange(t, name+", with the same key", p, same, p, same, api.ErrForm)
		expectExchange(t, name+", with the same key, as the second", same, p, same, p, api.ErrForm)
		expectExchange(t, name+", twice", p, p, p, p, api.ErrForm)
	}
	for _, key := range []int{0, me, 63} {
		a, b := peer(key, sample.Row(key, 2)), peer(key, mixed())
		expectExchange(t, "the same key", a, b, a, b, api.ErrKey)
		expectExchange(t, "one and the same", b, b, b, b, api.ErrKey)
		expectExchange(t, "the same key, without statements", peer(key), peer(key), peer(key), peer(key), api.ErrKey)
	}
}

// network is members who gossip over links that lose, double and delay messages.
type network struct {
	r       *rand.Rand
	peers   []api.Peer
	letters []api.Message
	said    []api.Statement
}

// step is one thing that happens in a network: a member speaks or offers, or a message arrives, once or twice, or is lost.
func (n *network) step(t *testing.T) {
	t.Helper()
	who := n.r.Intn(len(n.peers))
	switch n.r.Intn(4) {
	case 0:
		p, s, err := Say(n.peers[who], api.Statement{Time: len(n.said), Kind: api.KindOther, A: n.r.Intn(3)})
		if err != api.OK {
			t.Fatalf("a member cannot speak: error %d", err)
		}
		n.peers[who], n.said = p, append(n.said, s)
	case 1:
		m, err := Offer(n.peers[who], (who+1+n.r.Intn(len(n.peers)-1))%len(n.peers))
		if err != api.OK {
			t.Fatalf("a member cannot offer: error %d", err)
		}
		n.letters = append(n.letters, m)
	default:
		if len(n.letters) > 0 {
			n.deliver(t, n.r.Intn(len(n.letters)))
		}
	}
}

// deliver lets a message arrive, which mostly is taken out then; now and then it is lost.
func (n *network) deliver(t *testing.T, i int) {
	t.Helper()
	m := n.letters[i]
	if n.r.Intn(4) > 0 {
		n.letters = slices.Concat(n.letters[:i], n.letters[i+1:])
	}
	if n.r.Intn(5) == 0 {
		return
	}
	before := n.peers[m.To]
	after, answers, err := Take(before, m)
	if err != api.OK {
		t.Fatalf("a message cannot be taken: error %d", err)
	}
	n.peers[m.To], n.letters = after, append(n.letters, answers...)
	if !contains(after.Store, before.Store.Statements) || m.Kind == api.MessageGive && !contains(after.Store, m.Statements) {
		t.Errorf("%s is lost with %s", briefPeer(before), briefMessages([]api.Message{m}))
	}
}

// contains reports whether a store has all statements of a list.
func contains(s api.Store, l []api.Statement) bool {
	return !slices.ContainsFunc(l, func(x api.Statement) bool {
		return !slices.ContainsFunc(s.Statements, func(y api.Statement) bool { return statement.Same(x, y) })
	})
}

// Consequences: messages that are lost, doubled or late lose nothing that was there; nobody who only uses Say forks; in the end all have what was said.
func TestLossyLinks(t *testing.T) {
	for seed := range 30 {
		n := network{r: rand.New(rand.NewSource(int64(seed)))}
		for key := range 4 {
			n.peers = append(n.peers, peer(key))
		}
		for range 120 {
			n.step(t)
		}
		for _, p := range n.peers {
			if len(fork.Guilty(p.Store)) > 0 || !contains(sample.Store(n.said), p.Store.Statements) {
				t.Errorf("%s has what nobody said, or a fork", briefPeer(p))
			}
		}
		for range 2 {
			for i := 1; i < len(n.peers); i++ {
				n.peers[0], n.peers[i], _ = Exchange(n.peers[0], n.peers[i])
			}
		}
		for _, p := range n.peers {
			if want := sample.Store(n.said); !isList(p.Store.Statements, want.Statements) || len(store.Counted(p.Store)) != len(n.said) {
				t.Errorf("%s lacks something of %s", briefPeer(p), sample.Brief(want.Statements))
			}
		}
	}
}

// Consequences: whoever takes an answer to an offer of theirs, however late, has all that the other one had when answering.
func TestLateAnswers(t *testing.T) {
	r := rand.New(rand.NewSource(4))
	for range 300 {
		all := sample.Tree(me, r.Intn)
		a, b := api.Peer{Me: 1, Store: sample.Part(r.Intn, all)}, api.Peer{Me: 2, Store: sample.Part(r.Intn, all)}
		m, _ := Offer(a, b.Me)
		_, answers, err := Take(b, m)
		a.Store = added(a.Store, sample.Part(r.Intn, all).Statements)
		for _, give := range answers {
			a, _, _ = Take(a, give)
		}
		if err != api.OK || !contains(a.Store, b.Store.Statements) {
			t.Errorf("%s lacks something of %s, error %d", briefPeer(a), briefPeer(b), err)
		}
	}
}

// Consequences: whatever others give, who only uses Say is not guilty, and can go on speaking.
func TestHonestMembers(t *testing.T) {
	r := rand.New(rand.NewSource(5))
	for range 60 {
		p := peer(me)
		for i := range 8 {
			var err api.Errno
			if p, _, err = Say(p, api.Statement{Time: i, Kind: api.KindOther, A: r.Intn(2)}); err != api.OK {
				t.Fatalf("a member cannot speak: error %d", err)
			}
			give := sample.Tree(me+1, r.Intn)
			for _, s := range together(give, store.Of(p.Store, me)) {
				give = append(give, changed(s, func(s *api.Statement) { s.Author, s.A = me, s.A+1 }))
				give = append(give, changed(statement.Seal(give[len(give)-1]), func(s *api.Statement) { s.Seal.Key = you }))
			}
			if p, _, err = Take(p, given(you, me, give)); err != api.OK {
				t.Fatalf("a give cannot be taken: error %d", err)
			}
		}
		if fork.From(p.Store, me) != -1 || store.Height(p.Store, me) != 8 {
			t.Errorf("an honest member is guilty in %s", briefPeer(p))
		}
	}
}
