package chain

import (
	"math"
	"math/rand"
	"slices"
	"strings"
	"testing"

	"trustflow/api"
	"trustflow/statement"
)

// me is the author of most statements of these tests.
const me = 5

// first is a sealed statement with the number 0, unlike others of other values.
func first(author, time, value int) api.Statement {
	return statement.Seal(api.Statement{Author: author, Time: time, Kind: api.KindOther, A: value, List: []int{value}})
}

// behind is a sealed statement that follows another one, after so much time.
func behind(s api.Statement, ticks, value int) api.Statement {
	return resealed(first(s.Author, s.Time+ticks, value), func(n *api.Statement) {
		n.Number, n.Prev = s.Number+1, statement.Digest(s)
	})
}

// resignation is a sealed resignation that follows a statement.
func resignation(s api.Statement) api.Statement {
	return statement.Seal(api.Statement{Author: s.Author, Number: s.Number + 1, Prev: statement.Digest(s), Time: s.Time, Kind: api.KindResign})
}

// resealed is a statement with a change, and the right seal for it.
func resealed(s api.Statement, change func(*api.Statement)) api.Statement {
	change(&s)
	return statement.Seal(s)
}

// row is so many statements of an author that follow one another.
func row(author, n int) []api.Statement {
	var l []api.Statement
	for i := range n {
		if i == 0 {
			l = append(l, first(author, 10, 0))
		} else {
			l = append(l, behind(l[i-1], i%2, i))
		}
	}
	return l
}

// together are several lists as one, in new memory.
func together(lists ...[]api.Statement) []api.Statement { return slices.Concat(lists...) }

// list is statements as a list.
func list(s ...api.Statement) []api.Statement { return s }

// without is a list without one of its elements.
func without(l []api.Statement, i int) []api.Statement { return together(l[:i], l[i+1:]) }

// shuffled is a list in another order.
func shuffled(r *rand.Rand, l []api.Statement) []api.Statement {
	l = slices.Clone(l)
	r.Shuffle(len(l), func(i, j int) { l[i], l[j] = l[j], l[i] })
	return l
}

// isRow reports whether two lists are equal.
func isRow(a, b []api.Statement) bool { return slices.EqualFunc(a, b, statement.Same) }

// brief shows a list.
func brief(l []api.Statement) string {
	const digits = "0123456789abcdef"
	var b strings.Builder
	for _, s := range l {
		d := s.Seal.Digest + "\x00"
		b.WriteString(" " + string(rune('A'+s.Author%26)))
		b.WriteByte(digits[s.Number&15])
		b.WriteByte('/')
		b.WriteByte(digits[d[0]>>4])
		b.WriteByte(digits[d[0]&15])
	}
	return "[" + b.String() + " ]"
}

// expectCounted asserts what counts of an author, in several orders of the list, and that the list stays as it was.
func expectCounted(t *testing.T, name string, author int, l, want []api.Statement) {
	t.Helper()
	r := rand.New(rand.NewSource(4))
	for _, given := range [][]api.Statement{l, shuffled(r, l), shuffled(r, l), shuffled(r, l)} {
		before := slices.Clone(given)
		if got := Counted(author, given); !isRow(got, want) {
			t.Errorf("%s: what counts of %s is %s, want %s", name, brief(given), brief(got), brief(want))
		}
		if !isRow(given, before) {
			t.Errorf("%s: the list has changed", name)
		}
	}
}

// expectFork asserts a fork of an author in the same way; without statements there is none.
func expectFork(t *testing.T, name string, author int, l []api.Statement, want ...api.Statement) {
	t.Helper()
	r := rand.New(rand.NewSource(5))
	for _, given := range [][]api.Statement{l, shuffled(r, l), shuffled(r, l), shuffled(r, l)} {
		before := slices.Clone(given)
		got, ok := Fork(author, given)
		wanted := api.Fork{}
		if len(want) == 2 {
			wanted = api.Fork{First: want[0], Second: want[1]}
		}
		if ok != (len(want) == 2) || !statement.Same(got.First, wanted.First) || !statement.Same(got.Second, wanted.Second) {
			t.Errorf("%s: the fork of %s is %s, %v, want %s", name, brief(given), brief(list(got.First, got.Second)), ok, brief(want))
		}
		if !isRow(given, before) {
			t.Errorf("%s: the list has changed", name)
		}
	}
}

// expectBranch asserts the branch of a digest in the same way; without statements there is none.
func expectBranch(t *testing.T, name string, author int, l []api.Statement, digest string, want []api.Statement) {
	t.Helper()
	r := rand.New(rand.NewSource(6))
	for _, given := range [][]api.Statement{l, shuffled(r, l), shuffled(r, l), shuffled(r, l)} {
		before := slices.Clone(given)
		if got, ok := Branch(author, given, digest); ok != (len(want) > 0) || !isRow(got, want) {
			t.Errorf("%s: the branch of %s is %s, %v, want %s", name, brief(given), brief(got), ok, brief(want))
		}
		if !isRow(given, before) {
			t.Errorf("%s: the list has changed", name)
		}
	}
}

// byDigest is a list in the order of digests.
func byDigest(l ...api.Statement) []api.Statement {
	slices.SortFunc(l, func(a, b api.Statement) int { return strings.Compare(statement.Digest(a), statement.Digest(b)) })
	return l
}

// passedOver are statements of an author that look like one that goes before them, each one passed over for a reason of its own.
func passedOver(s api.Statement) map[string]api.Statement {
	unsealed := s
	unsealed.A, unsealed.Seal = s.A+1, api.Seal{}
	oldSeal := s
	oldSeal.A++
	shortSeal := s
	shortSeal.Seal.Digest = shortSeal.Seal.Digest[:31]
	otherKey := s
	otherKey.Seal.Key++
	change := func(f func(*api.Statement)) api.Statement { return resealed(s, f) }
	return map[string]api.Statement{
		"no seal":                 unsealed,
		"the seal of another one": oldSeal,
		"a seal that is cut off":  shortSeal,
		"another key's seal":      otherKey,
		"a kind that is none":     change(func(s *api.Statement) { s.Kind = 9 }),
		"a negative time":         change(func(s *api.Statement) { s.Time = -1 }),
		"a time that is too late": change(func(s *api.Statement) { s.Time = api.MaxTime + 1 }),
		"a value out of range":    change(func(s *api.Statement) { s.B = -1 }),
		"a list that is too long": change(func(s *api.Statement) { s.List = make([]int, api.MaxList+1) }),
		"a body that is too long": change(func(s *api.Statement) { s.Body = strings.Repeat("b", api.MaxBody+1) }),
		"a Prev without form":     change(func(s *api.Statement) { s.Prev += "p" }),
		"pins without form":       change(func(s *api.Statement) { s.Pins = []api.Pin{{Author: 1}} }),
		"a vouch for the author":  change(func(s *api.Statement) { s.Kind, s.A, s.B, s.C, s.List = api.KindVouch, s.Author, 1, s.Time, nil }),
		"another author":          change(func(s *api.Statement) { s.Author++ }),
		"an author that is none":  change(func(s *api.Statement) { s.Author = -1 }),
	}
}

// P4.1: the chapter's example.
func TestExample(t *testing.T) {
	l := row(me, 2)
	a, b := behind(l[1], 1, 7), behind(l[1], 1, 8)
	all := together(l, list(a, b))
	expectCounted(t, "the example", me, all, l)
	expectFork(t, "the example", me, all, byDigest(a, b)...)
}

// P4.1: a row without faults counts, up to the longest one there can be.
func TestCountedOfWholeRows(t *testing.T) {
	for _, n := range []int{0, 1, 2, 3, 10, 199, 200} {
		expectCounted(t, "a row", me, row(me, n), row(me, n))
		expectFork(t, "a row", me, row(me, n))
	}
	expectCounted(t, "nil", me, nil, nil)
	expectCounted(t, "empty", me, []api.Statement{}, nil)
}

// P4.1: the statements of other authors are passed over, whichever author is asked for.
func TestCountedOfSeveralAuthors(t *testing.T) {
	all := together(row(0, 3), row(me, 4), row(63, 2))
	expectCounted(t, "the least author", 0, all, row(0, 3))
	expectCounted(t, "another author", me, all, row(me, 4))
	expectCounted(t, "the greatest author", 63, all, row(63, 2))
	for _, author := range []int{1, 62, -1, 64, math.MinInt, math.MaxInt} {
		expectCounted(t, "nobody", author, all, nil)
		expectFork(t, "nobody", author, all)
	}
	for _, author := range []int{-1, 64, math.MinInt, math.MaxInt} {
		l := list(first(author, 1, 1), first(author, 1, 2))
		expectCounted(t, "no key", author, l, nil)
		expectFork(t, "no key", author, l)
		expectBranch(t, "no key", author, l, statement.Digest(l[0]), nil)
	}
}

// P4.1: copies are passed over, also such as have empty lists where the others have nil.
func TestCopies(t *testing.T) {
	l := together(row(me, 3))
	l = append(l, resignation(l[2]))
	again := slices.Clone(l)
	for i := range again {
		again[i].Pins = []api.Pin{}
	}
	again[3].List = []int{}
	all := together(l, again, l)
	expectCounted(t, "copies", me, all, l)
	expectFork(t, "copies", me, all)
	expectBranch(t, "copies", me, all, l[3].Seal.Digest, l)
}

// P4.1, P4.2: what is not well formed, not sealed, or of another author neither counts nor makes a fork, and has no branch.
func TestPassedOver(t *testing.T) {
	l := row(me, 4)
	for i, s := range l {
		for name, wrong := range passedOver(s) {
			expectCounted(t, name+", beside the right one", me, append(slices.Clone(l), wrong), l)
			expectFork(t, name+", beside the right one", me, append(slices.Clone(l), wrong))
			expectBranch(t, name+", beside the right one", me, append(slices.Clone(l), wrong), l[3].Seal.Digest, l)
			instead := slices.Clone(l)
			instead[i] = wrong
			expectCounted(t, name+", instead of the right one", me, instead, l[:i])
			expectBranch(t, name+", instead of the right one", me, instead, statement.Digest(wrong), nil)
			expectBranch(t, name+", instead of the right one", me, instead, wrong.Seal.Digest, nil)
			// The right one is not there, so neither is the branch of what stands behind it, nor that of its own digest.
			expectBranch(t, name+", instead of the right one", me, instead, l[3].Seal.Digest, nil)
		}
	}
}

// P4.1: a row ends before the first number that is not there.
func TestCountedWithGaps(t *testing.T) {
	l := row(me, 6)
	for i := range l {
		expectCounted(t, "a gap", me, without(l, i), l[:i])
	}
}

// P4.1: a row ends before the first statement that does not follow the one before.
func TestCountedOfWhatDoesNotFollow(t *testing.T) {
	l := row(me, 3)
	next := behind(l[2], 0, 50)
	expectCounted(t, "the same time", me, append(slices.Clone(l), next), append(slices.Clone(l), next))
	for name, change := range map[string]func(*api.Statement){
		"another digest before":  func(s *api.Statement) { s.Prev = strings.Repeat("p", 32) },
		"the digest of number 1": func(s *api.Statement) { s.Prev = l[1].Seal.Digest },
		"the digest of number 0": func(s *api.Statement) { s.Prev = l[0].Seal.Digest },
		"a time that falls":      func(s *api.Statement) { s.Time-- },
		"the time 0":             func(s *api.Statement) { s.Time = 0 },
	} {
		wrong := resealed(next, change)
		all := append(slices.Clone(l), wrong, behind(wrong, 1, 51))
		expectCounted(t, name, me, all, l)
		expectFork(t, name, me, all)
	}
}

// P4.1: a resignation counts, and nothing that stands after it.
func TestCountedOfResignations(t *testing.T) {
	for n := 1; n <= 3; n++ {
		l := row(me, n)
		l = append(l, resignation(l[n-1]))
		after := behind(l[n], 1, 9)
		all := append(slices.Clone(l), after, behind(after, 1, 10))
		expectCounted(t, "a resignation", me, all, l)
		expectFork(t, "a resignation", me, all)
	}
	only := statement.Seal(api.Statement{Author: me, Time: 3, Kind: api.KindResign})
	expectCounted(t, "a resignation alone", me, list(only), list(only))
	expectCounted(t, "a resignation first", me, list(only, behind(only, 1, 2), resignation(only)), list(only))
	expectCounted(t, "two resignations", me, list(only, resignation(only)), list(only))
}

// P4.1: no statement counts that has another one beside it, whatever the other one says, and nothing behind it does.
func TestCountedOfForks(t *testing.T) {
	l := row(me, 5)
	for i, s := range l {
		for name, other := range map[string]api.Statement{
			"another value":    resealed(s, func(s *api.Statement) { s.A += 100 }),
			"another time":     resealed(s, func(s *api.Statement) { s.Time++ }),
			"an earlier time":  resealed(s, func(s *api.Statement) { s.Time = 0 }),
			"another body":     resealed(s, func(s *api.Statement) { s.Body = "b" }),
			"another list":     resealed(s, func(s *api.Statement) { s.List = nil }),
			"another pin":      resealed(s, func(s *api.Statement) { s.Pins = []api.Pin{{Height: 1, Digest: strings.Repeat("d", 32)}} }),
			"another kind":     resealed(s, func(s *api.Statement) { s.Kind++ }),
			"a resignation":    resealed(s, func(s *api.Statement) { s.Kind, s.A, s.List = api.KindResign, 0, nil }),
			"another one then": resealed(s, func(s *api.Statement) { s.Prev = strings.Repeat("\x00", len(s.Prev)); s.C = 1 }),
		} {
			all := append(slices.Clone(l), other)
			expectCounted(t, name, me, all, l[:i])
			expectFork(t, name, me, all, byDigest(s, other)...)
			expectCounted(t, name+", of somebody else", me+1, all, nil)
		}
	}
}

// P4.1: of several forks the one with the least number, and of several statements those with the least digests.
func TestForkIsTheLeast(t *testing.T) {
	l := row(me, 3)
	var faces []api.Statement
	for i := range 12 {
		faces = append(faces, behind(l[2], 1, 20+i))
		sorted := byDigest(slices.Clone(faces)...)
		if i > 0 {
			expectFork(t, "many faces", me, together(l, faces), sorted[:2]...)
			later := behind(sorted[i], 1, 40)
			expectFork(t, "a fork before another one", me, together(l, faces, list(later, behind(sorted[0], 1, 41))), sorted[:2]...)
		}
	}
	begin := list(first(me, 1, 90), l[0])
	expectFork(t, "a fork of the first ones", me, together(l, faces, begin), byDigest(begin...)...)
}

// P4.1, R8: the digests are compared as unsigned bytes.
func TestForkComparesUnsigned(t *testing.T) {
	var low, high api.Statement
	for i := range 100 {
		s := first(me, 1, i)
		if s.Seal.Digest[0] < 0x80 {
			low = s
		} else {
			high = s
		}
	}
	expectFork(t, "a small and a great digest", me, list(low, high), low, high)
}

// P4.1: a fork counts as one wherever it is, also behind a gap, a resignation, or where nothing follows.
func TestForkBehindAnything(t *testing.T) {
	l := row(me, 3)
	end := resignation(l[2])
	a, b := behind(end, 1, 1), behind(end, 1, 2)
	expectFork(t, "behind a resignation", me, append(slices.Clone(l), end, a, b), byDigest(a, b)...)
	expectFork(t, "behind a gap", me, list(l[0], a, b), byDigest(a, b)...)
	expectFork(t, "alone", me, list(a, b), byDigest(a, b)...)
	c := resealed(a, func(s *api.Statement) { s.Time, s.Prev = 0, strings.Repeat("p", 32) })
	expectFork(t, "where nothing follows", me, list(a, c), byDigest(a, c)...)
	whole := row(me, 200)
	last := resealed(whole[199], func(s *api.Statement) { s.A++ })
	expectFork(t, "the last number", me, append(whole, last), byDigest(whole[199], last)...)
	expectFork(t, "one number of two authors", me, list(first(me, 1, 1), first(me+1, 1, 2), first(me-1, 1, 1)))
}

// P4.1: each condition of Follows.
func TestFollows(t *testing.T) {
	a := behind(first(me, 10, 1), 5, 2)
	b := behind(a, 3, 3)
	check := func(name string, want bool, change func(a, b *api.Statement)) {
		x, y := a, b
		change(&x, &y)
		if got := Follows(x, y); got != want {
			t.Errorf("%s: %v", name, got)
		}
	}
	check("as it is", true, func(a, b *api.Statement) {})
	check("the same time", true, func(a, b *api.Statement) { b.Time = a.Time })
	check("an earlier time", false, func(a, b *api.Statement) { b.Time = a.Time - 1 })
	check("another author", false, func(a, b *api.Statement) { b.Author++ })
	check("the same number", false, func(a, b *api.Statement) { b.Number-- })
	check("a number too far", false, func(a, b *api.Statement) { b.Number++ })
	check("a number before", false, func(a, b *api.Statement) { b.Number -= 2 })
	check("no Prev", false, func(a, b *api.Statement) { b.Prev = "" })
	check("a shorter Prev", false, func(a, b *api.Statement) { b.Prev = b.Prev[:31] })
	check("a longer Prev", false, func(a, b *api.Statement) { b.Prev += "\x00" })
	check("its own digest", false, func(a, b *api.Statement) { b.Prev = statement.Digest(*b) })
	check("the Prev of the one before", false, func(a, b *api.Statement) { b.Prev = a.Prev })
	check("another statement before", false, func(a, b *api.Statement) { a.A++ })
	if Follows(b, a) || Follows(a, a) || Follows(b, b) {
		t.Error("it follows what stands behind it, or itself")
	}
	for i, x := range row(me, 6) {
		for j, y := range row(me, 6) {
			if Follows(x, y) != (j == i+1) {
				t.Errorf("whether %d follows %d: %v", j, i, Follows(x, y))
			}
		}
	}
}

// P4.1: Follows asks for nothing but what its definition says: neither for seals nor for statements that are well formed.
func TestFollowsOfAnyStatements(t *testing.T) {
	a := api.Statement{Author: -9, Number: -3, Time: -5, Prev: "x", Seal: api.Seal{Key: 7, Digest: "seal"}}
	b := api.Statement{Author: -9, Number: -2, Time: -5, Prev: statement.Digest(a)}
	if !Follows(a, b) {
		t.Error("a statement that is not well formed does not follow")
	}
	b.Prev = "seal"
	if Follows(a, b) {
		t.Error("it follows what is said in the seal")
	}
	// A number one greater than the greatest one does not exist.
	a = api.Statement{Number: math.MaxInt}
	b = api.Statement{Number: math.MinInt, Prev: statement.Digest(a)}
	if Follows(a, b) {
		t.Error("the least number follows the greatest one")
	}
	a.Number, b.Number = math.MinInt, math.MinInt+1
	b.Prev = statement.Digest(a)
	if !Follows(a, b) {
		t.Error("the least number but one does not follow the least one")
	}
	a.Number, b.Number = math.MaxInt-1, math.MaxInt
	b.Prev = statement.Digest(a)
	if !Follows(a, b) {
		t.Error("the greatest number does not follow the one before")
	}
}

// P4.2: the branch of each statement of a row is the row up to it.
func TestBranchOfRows(t *testing.T) {
	for _, n := range []int{1, 2, 7, 200} {
		l := row(me, n)
		all := together(l, row(me+1, 3), row(0, 2))
		for _, i := range []int{0, n / 2, n - 1} {
			expectBranch(t, "a row", me, all, l[i].Seal.Digest, l[:i+1])
		}
	}
}

// P4.2: there is no branch of a digest that is not that of a statement of the author.
func TestBranchOfOtherDigests(t *testing.T) {
	l := row(me, 3)
	other := row(me+1, 3)
	digest := l[2].Seal.Digest
	all := together(l, other)
	for _, d := range []string{"", "x", digest[:31], digest + "\x00", strings.Repeat("\x00", 32), other[2].Seal.Digest, statement.Digest(behind(l[2], 1, 3))} {
		expectBranch(t, "another digest", me, all, d, nil)
		expectBranch(t, "no statements", me, nil, d, nil)
	}
	expectBranch(t, "the other author", me+1, all, other[2].Seal.Digest, other)
	expectBranch(t, "the other author", me+1, all, digest, nil)
}

// P4.2: nothing is returned of a branch that does not begin with the number 0, or has a gap.
func TestBranchWithGaps(t *testing.T) {
	l := row(me, 5)
	for i := range l {
		rest := without(l, i)
		for j, s := range l {
			want := l[:j+1]
			if j >= i {
				want = nil
			}
			expectBranch(t, "a gap", me, rest, s.Seal.Digest, want)
		}
	}
}

// P4.2: each statement of a branch follows the one before.
func TestBranchOfWhatDoesNotFollow(t *testing.T) {
	l := row(me, 4)
	stranger := row(me+1, 4)
	for name, change := range map[string]func(*api.Statement){
		"a time that falls":      func(s *api.Statement) { s.Time = l[3].Time - 1 },
		"a number too far":       func(s *api.Statement) { s.Number++ },
		"a number too near":      func(s *api.Statement) { s.Number-- },
		"the number 1":           func(s *api.Statement) { s.Number = 1 },
		"the digest of number 2": func(s *api.Statement) { s.Prev = l[2].Seal.Digest },
		"the digest of a second": func(s *api.Statement) { s.Prev = stranger[3].Seal.Digest },
	} {
		wrong := resealed(behind(l[3], 1, 9), change)
		later := behind(wrong, 1, 10)
		all := together(l, stranger, list(wrong, later))
		expectBranch(t, name, me, all, wrong.Seal.Digest, nil)
		expectBranch(t, name+", and one behind it", me, all, later.Seal.Digest, nil)
	}
	same := behind(l[3], 0, 9)
	expectBranch(t, "the same time", me, append(slices.Clone(l), same), same.Seal.Digest, append(slices.Clone(l), same))
}

// P4.2: a branch goes through forks, whichever face it has, and past resignations.
func TestBranchThroughForksAndResignations(t *testing.T) {
	l := row(me, 2)
	a, b := behind(l[1], 1, 20), behind(l[1], 2, 21)
	end := resignation(b)
	left, right := behind(a, 1, 22), behind(end, 1, 23)
	other := first(me, 3, 24)
	all := together(l, list(a, b, end, left, right, other))
	expectCounted(t, "forks", me, all, nil)
	expectBranch(t, "the first face", me, all, left.Seal.Digest, list(l[0], l[1], a, left))
	expectBranch(t, "the second face", me, all, b.Seal.Digest, list(l[0], l[1], b))
	expectBranch(t, "a resignation", me, all, end.Seal.Digest, list(l[0], l[1], b, end))
	expectBranch(t, "past a resignation", me, all, right.Seal.Digest, list(l[0], l[1], b, end, right))
	expectBranch(t, "another beginning", me, all, other.Seal.Digest, list(other))
}
