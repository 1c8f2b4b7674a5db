package chain

import (
	"iter"
	"slices"

	"trustflow/api"
	"trustflow/statement"
)

// known are the statements of one author, well formed and sealed, by their digests: so each one is there once, however many copies there were.
type known map[string]api.Statement

// find returns the statements of the author in a list that are well formed and sealed.
func find(author int, l []api.Statement) known {
	found := known{}
	for _, s := range l {
		if s.Author == author && statement.Check(s) == api.OK && statement.Sealed(s) {
			found[s.Seal.Digest] = s
		}
	}
	return found
}

// byNumber returns the digests of the statements with each number, ascending.
func (k known) byNumber() [api.MaxChain][]string {
	var digests [api.MaxChain][]string
	for digest, s := range k {
		digests[s.Number] = append(digests[s.Number], digest)
	}
	// Nothing may depend on the order in which the map was gone through.
	for _, d := range digests {
		slices.Sort(d)
	}
	return digests
}

// back goes through the branch of a digest from its end, as far as it is there. It ends, because the numbers fall.
func (k known) back(digest string) iter.Seq[api.Statement] {
	return func(yield func(api.Statement) bool) {
		s, ok := k[digest]
		for ok && yield(s) {
			later := s
			s, ok = k[later.Prev]
			ok = ok && isBehind(s, later)
		}
	}
}
