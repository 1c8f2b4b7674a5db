package chain

import (
	"math/rand"
	"slices"
	"testing"

	"trustflow/api"
	"trustflow/statement"
)

// single are the different statements of an author in a list that are well formed and sealed, in the order of their digests: compared with each other, without a map.
func single(author int, l []api.Statement) []api.Statement {
	var out []api.Statement
	for _, s := range l {
		same := func(x api.Statement) bool { return statement.Same(x, s) }
		if s.Author == author && statement.Check(s) == api.OK && statement.Sealed(s) && !slices.ContainsFunc(out, same) {
			out = append(out, s)
		}
	}
	return byDigest(out...)
}

// numbered are the statements of a list with a number.
func numbered(l []api.Statement, n int) []api.Statement {
	var out []api.Statement
	for _, s := range l {
		if s.Number == n {
			out = append(out, s)
		}
	}
	return out
}

// follows is the chapter's definition, word by word.
func follows(a, b api.Statement) bool {
	return b.Author == a.Author && b.Number == a.Number+1 && b.Prev == statement.Digest(a) && b.Time >= a.Time
}

// modelCounted is the chapter's definition of what counts.
func modelCounted(author int, l []api.Statement) []api.Statement {
	l = single(author, l)
	var out []api.Statement
	for n := range api.MaxChain {
		with := numbered(l, n)
		if len(with) != 1 {
			return out
		}
		if n > 0 && (!follows(out[n-1], with[0]) || out[n-1].Kind == api.KindResign) {
			return out
		}
		out = append(out, with[0])
	}
	return out
}

// modelFork is the chapter's definition of the fork that is returned, as a list.
func modelFork(author int, l []api.Statement) []api.Statement {
	l = single(author, l)
	for n := range api.MaxChain {
		if with := numbered(l, n); len(with) > 1 {
			return with[:2]
		}
	}
	return nil
}

// modelBranch is the chapter's definition of a branch, found from its beginning: of all rows that begin with a number 0 the one that ends with the digest.
func modelBranch(author int, l []api.Statement, digest string) []api.Statement {
	l = single(author, l)
	var found []api.Statement
	var grow func(row []api.Statement)
	grow = func(row []api.Statement) {
		last := row[len(row)-1]
		if statement.Digest(last) == digest {
			found = slices.Clone(row)
		}
		for _, s := range l {
			if follows(last, s) {
				grow(append(slices.Clone(row), s))
			}
		}
	}
	for _, s := range numbered(l, 0) {
		grow([]api.Statement{s})
	}
	return found
}

// anyStatement is a statement that mostly stands behind one of a list, now and then with something wrong.
func anyStatement(r *rand.Rand, l []api.Statement) api.Statement {
	s := first(me+r.Intn(2), 10, r.Intn(2))
	if len(l) > 0 && r.Intn(8) > 0 {
		s = behind(l[r.Intn(len(l))], r.Intn(3), r.Intn(2))
	}
	return resealed(s, func(s *api.Statement) {
		switch r.Intn(16) {
		case 0:
			s.Kind, s.A, s.List = api.KindResign, 0, nil
		case 1:
			s.Time -= 2
		case 2:
			s.Number++
		case 3:
			s.Author = me
		case 4:
			s.Kind = 9
		}
	})
}

// anyList is a list of such statements, in any order, with copies and wrong seals.
func anyList(r *rand.Rand) []api.Statement {
	var l []api.Statement
	for range 1 + r.Intn(10) {
		l = append(l, anyStatement(r, l))
	}
	for i, s := range l {
		switch r.Intn(12) {
		case 0:
			l = append(l, s)
		case 1:
			l[i].Seal.Key++
		}
	}
	return shuffled(r, l)
}

// P4.1, P4.2: all kinds of lists, against the chapter's definitions; and what follows from them.
func TestAgainstTheDefinitions(t *testing.T) {
	r := rand.New(rand.NewSource(1))
	longest, forks, branches := 0, 0, 0
	for range 1000 {
		l := anyList(r)
		for _, author := range []int{me, me + 1} {
			counted := modelCounted(author, l)
			expectCounted(t, "a list", author, l, counted)
			fork := modelFork(author, l)
			expectFork(t, "a list", author, l, fork...)
			for _, s := range l {
				branch := modelBranch(author, l, s.Seal.Digest)
				expectBranch(t, "a list", author, l, s.Seal.Digest, branch)
				branches = max(branches, len(branch))
			}
			if n := len(counted); n > 0 {
				expectBranch(t, "what counts", author, l, counted[n-1].Seal.Digest, counted)
			}
			longest, forks = max(longest, len(counted)), forks+len(fork)
		}
	}
	if longest < 5 || forks < 300 || branches < 6 {
		t.Errorf("the lists show too little: rows of %d, %d forks, branches of %d", longest, forks/2, branches)
	}
}

// Consequences: with more statements what counts does not get shorter, but by a fork with a number that counted; and a fork stays.
func TestMoreStatements(t *testing.T) {
	r := rand.New(rand.NewSource(2))
	for range 3000 {
		l := anyList(r)
		more := together(l, anyList(r), []api.Statement{anyStatement(r, l)})
		before, after := Counted(me, l), Counted(me, more)
		fork, forked := Fork(me, more)
		short := forked && fork.First.Number < len(before)
		if short {
			before = before[:fork.First.Number]
		}
		if len(after) < len(before) || !isRow(after[:len(before)], before) || short && len(after) != len(before) {
			t.Errorf("of %s counts %s, with more statements %s", brief(l), brief(before), brief(after))
		}
		if old, was := Fork(me, l); was && (!forked || fork.First.Number > old.First.Number) {
			t.Errorf("the fork of %s goes away", brief(l))
		}
	}
}

// P1: many statements, among them many of one number, take no longer than is to be expected.
func TestManyStatements(t *testing.T) {
	l := row(me, 200)
	for i := range 5000 {
		l = append(l, behind(l[150], 1, 300+i), l[i%200])
	}
	expectCounted(t, "many statements", me, l, l[:151])
	expectBranch(t, "many statements", me, l, l[199].Seal.Digest, l[:200])
	expectFork(t, "many statements", me, l, modelMany(l)...)
	expectNext(t, "many statements", me, l, draft(500), api.ErrForm)
}

// modelMany is the fork of a list without copies of the number 151.
func modelMany(l []api.Statement) []api.Statement {
	faces := map[string]api.Statement{}
	for _, s := range numbered(l, 151) {
		faces[s.Seal.Digest] = s
	}
	var all []api.Statement
	for _, s := range faces {
		all = append(all, s)
	}
	return byDigest(all...)[:2]
}
