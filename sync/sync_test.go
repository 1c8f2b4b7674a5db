package sync

import (
	"slices"
	"testing"

	"trustflow/api"
	"trustflow/sample"
	"trustflow/vector"
)

// P8.1: peers are valid if their key and their store are.
func TestValid(t *testing.T) {
	for _, key := range []int{0, 1, me, 62, 63} {
		for _, p := range []api.Peer{peer(key), peer(key, list()), peer(key, mixed()), full(key, 0), full(key, 1)} {
			if !Valid(p) {
				t.Errorf("%s: it is valid", briefPeer(p))
			}
		}
	}
	for _, key := range outside {
		for _, p := range []api.Peer{peer(key), peer(key, mixed())} {
			if Valid(p) {
				t.Errorf("%s: it is not valid", briefPeer(p))
			}
		}
	}
	for name, p := range wildPeers() {
		if Valid(p) {
			t.Errorf("%s: it is not valid", name)
		}
	}
}

// wildPeers are peers that are not valid.
func wildPeers() map[string]api.Peer {
	all := map[string]api.Peer{
		"no key":                peer(-1, mixed()),
		"too great a key":       peer(api.MaxKeys),
		"a key and store wrong": {Me: -1, Store: api.Store{Statements: list(api.Statement{})}},
	}
	for name, s := range sample.WildStores() {
		all[name] = api.Peer{Me: me, Store: s}
	}
	return all
}

// P8.1: an offer is for the member that is named, and has the heads of the store and nothing else.
func TestOffer(t *testing.T) {
	for _, p := range []api.Peer{peer(me), peer(me, mixed()), peer(0, mixed()), peer(63, sample.Row(63, 2)), full(me, 0)} {
		for _, to := range []int{0, 1, me, you, 62, 63} {
			if to == p.Me {
				continue
			}
			memory := slices.Clone(p.Store.Statements)
			got, err := Offer(p, to)
			if want := offered(p.Me, to, vector.Of(p.Store)...); err != api.OK || !isMessage(got, want) {
				t.Errorf("%s: offers %s, error %d, want %s", briefPeer(p), briefMessages([]api.Message{got}), err, briefMessages([]api.Message{want}))
			}
			if !isList(p.Store.Statements, memory) {
				t.Errorf("%s: the peer has changed", briefPeer(p))
			}
			// Whoever has the same statements has no answer.
			same := api.Peer{Me: to, Store: p.Store}
			expectTake(t, "an offer", same, got, same, api.OK)
		}
	}
}

// P8.1: what is wrong with the peer comes before what is wrong with the key.
func TestOfferErrors(t *testing.T) {
	expect := func(name string, p api.Peer, to int, want api.Errno) {
		t.Helper()
		if got, err := Offer(p, to); err != want || !isMessage(got, api.Message{}) {
			t.Errorf("%s: offers %s, error %d, want %d", name, briefMessages([]api.Message{got}), err, want)
		}
	}
	for _, p := range []api.Peer{peer(me), peer(me, mixed()), peer(0, mixed()), peer(63)} {
		for _, to := range append(slices.Clone(outside), p.Me) {
			expect("no key", p, to, api.ErrKey)
		}
	}
	for name, p := range wildPeers() {
		for _, to := range append(slices.Clone(outside), you, p.Me) {
			expect(name, p, to, api.ErrForm)
		}
	}
}
