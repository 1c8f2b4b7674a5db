package vector

import (
	"trustflow/api"
	"trustflow/chain"
	"trustflow/store"
)

// Missing returns what somebody with the heads l may lack of s, by author, in the order of s.
func Missing(s api.Store, l []api.Head) ([]api.Statement, api.Errno) {
	if !store.Valid(s) || !Valid(l) {
		return nil, api.ErrForm
	}
	var missing []api.Statement
	for author := range api.MaxKeys {
		missing = append(missing, lacking(s, find(l, author))...)
	}
	return missing, api.OK
}

// find returns the head of an author. Without one it is the head of somebody who has nothing, not even a sum.
func find(l []api.Head, author int) api.Head {
	for _, h := range l {
		if h.Author == author {
			return h
		}
	}
	return api.Head{Author: author}
}

// lacking returns what somebody with the head h may lack of the statements in s of its author.
func lacking(s api.Store, h api.Head) []api.Statement {
	all := store.Of(s, h.Author)
	if sum(all) == h.Sum {
		return nil
	}
	if isForked(s, h.Author) || !goesThrough(chain.Counted(h.Author, all), h) {
		return all
	}
	// Without a fork what counts stands first, each number once.
	return all[h.Height:]
}

// goesThrough reports whether counted statements begin with those that an unforked head ends: all that counts there is here too.
func goesThrough(counted []api.Statement, h api.Head) bool {
	if h.Forked || h.Height == 0 || h.Height > len(counted) {
		return false
	}
	return counted[h.Height-1].Seal.Digest == h.Digest
}
