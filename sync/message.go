package sync

import (
	"trustflow/api"
	"trustflow/store"
	"trustflow/vector"
)

// offer returns the message with the heads of what p has.
func offer(p api.Peer, to int) api.Message {
	return api.Message{From: p.Me, To: to, Kind: api.MessageOffer, Heads: vector.Of(p.Store)}
}

// answer returns the give of what an offer shows to be missing, if something is.
func answer(p api.Peer, offer api.Message) []api.Message {
	// The store and the heads are valid: there is no error.
	missing, _ := vector.Missing(p.Store, offer.Heads)
	if len(missing) == 0 {
		return nil
	}
	return []api.Message{{From: p.Me, To: offer.From, Kind: api.MessageGive, Statements: missing}}
}

// isFor reports whether m is a message for the member me, of one of the two kinds.
func isFor(m api.Message, me int) bool {
	if m.To != me || m.From == me || !isKey(m.From) {
		return false
	}
	switch m.Kind {
	case api.MessageOffer:
		return vector.Valid(m.Heads) && len(m.Statements) == 0
	case api.MessageGive:
		return len(m.Statements) <= api.MaxStatements && len(m.Heads) == 0
	}
	return false
}

// fresh returns the statements of l that are well formed and sealed and that s lacks: each once, in their order, as many as there is room for.
func fresh(s api.Store, l []api.Statement) []api.Statement {
	there := map[string]bool{}
	for _, x := range s.Statements {
		there[x.Seal.Digest] = true
	}
	var out []api.Statement
	for _, x := range l {
		if len(s.Statements)+len(out) == api.MaxStatements {
			break
		}
		// What has the digest of a statement that is there is this one, or not sealed.
		if there[x.Seal.Digest] || !fits(x) {
			continue
		}
		there[x.Seal.Digest] = true
		out = append(out, x)
	}
	return out
}

// fits reports whether a store can have x: whether x alone is one.
func fits(x api.Statement) bool {
	return store.Valid(api.Store{Statements: []api.Statement{x}})
}

// bundle returns the store with statements that fit, merged by halves, because their order is a matter of layer 5.
func bundle(l []api.Statement) api.Store {
	if len(l) < 2 {
		return api.Store{Statements: l}
	}
	half := len(l) / 2
	s, _ := store.Merge(bundle(l[:half]), bundle(l[half:]))
	return s
}
