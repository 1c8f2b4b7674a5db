package vector

import (
	"math/rand"
	"slices"
	"strings"
	"testing"

	"trustflow/api"
	"trustflow/chain"
	"trustflow/fork"
	"trustflow/sample"
	"trustflow/statement"
	"trustflow/store"
)

// P7.2: the chapter's example.
func TestMissingExample(t *testing.T) {
	l := sample.Row(me, 5)
	expectMissing(t, "the example", sample.Store(l), heads(headOf(false, l[:2])), l[2:]...)
}

// P7.2: without a head of an author everything of the author is missing, whatever the others' heads are.
func TestMissingWithoutAHead(t *testing.T) {
	a, b, c := sample.Row(0, 3), sample.Row(me, 4), sample.Row(63, 2)
	s := sample.Store(a, b[1:], list(sample.Said(me, 1, 9)), c)
	expectMissing(t, "no heads", s, nil, s.Statements...)
	expectMissing(t, "no heads", s, heads(), s.Statements...)
	expectMissing(t, "others' heads", s, heads(headOf(false, sample.Row(1, 2)), headOf(false, sample.Row(62, 9))), s.Statements...)
	expectMissing(t, "one head", s, heads(headOf(false, a)), s.Statements[3:]...)
	expectMissing(t, "two heads", s, heads(headOf(false, a), headOf(false, c)), s.Statements[3:7]...)
	expectMissing(t, "no statements", api.Store{}, heads(headOf(false, a[:1], a[2]), whole(1)))
	expectMissing(t, "the sum of no statements", api.Store{}, heads(with(whole(me), func(h *api.Head) { h.Sum = sumOf() })))
}

// P7.2: with the same sum nothing is missing, whatever else the head says.
func TestMissingWithTheSameSum(t *testing.T) {
	l := sample.Row(me, 4)
	for name, s := range map[string]api.Store{
		"a row":        sample.Store(l),
		"a gap":        sample.Store(l[:1], l[2:]),
		"no beginning": sample.Store(l[1:]),
		"a fork":       sample.Store(l, list(sample.Said(me, 2, 9))),
	} {
		sum := sumOf(s.Statements...)
		for what, h := range faultless() {
			h.Author, h.Sum = me, sum
			expectMissing(t, name+", "+what, s, heads(h))
		}
		h := with(whole(me+1), func(h *api.Head) { h.Sum = sum })
		expectMissing(t, name+", the sum of another author", s, heads(h), s.Statements...)
	}
}

// P7.2: behind what the head ends with, the statements from there on are missing, also those that do not count.
func TestMissingBehindAHead(t *testing.T) {
	l := sample.Row(me, 7)
	end := sample.After(l[6], api.KindResign, 0)
	past := sample.After(end, api.KindOther, 1)
	loose := sample.Said(me, 9, 1)
	for n := 1; n <= len(l); n++ {
		h := heads(headOf(false, l[:n]))
		expectMissing(t, "a row", sample.Store(l), h, l[n:]...)
		expectMissing(t, "a resignation", sample.Store(l, list(end)), h, together(l[n:], list(end))...)
		expectMissing(t, "past a resignation", sample.Store(l, list(end, past)), h, together(l[n:], list(end, past))...)
		expectMissing(t, "behind a gap", sample.Store(l, list(loose)), h, together(l[n:], list(loose))...)
		for m := n; m+1 < len(l); m++ {
			expectMissing(t, "a gap", sample.Store(l[:m], l[m+1:]), h, together(l[n:m], l[m+1:])...)
		}
		other := heads(headOf(false, l[:n], loose))
		expectMissing(t, "somebody who has others too", sample.Store(l), other, l[n:]...)
	}
	full := sample.Row(me, api.MaxChain)
	for _, n := range []int{1, 100, 199} {
		expectMissing(t, "a whole chain", sample.Store(full), heads(headOf(false, full[:n])), full[n:]...)
	}
	expectMissing(t, "all of a chain, but another sum", sample.Store(full[1:], full[:1]), heads(with(headOf(false, full), func(h *api.Head) { h.Sum = sumOf() })))
}

// P7.2: where the head does not say for sure what is there, everything of the author is missing.
func TestMissingEverything(t *testing.T) {
	l := sample.Row(me, 5)
	end := sample.After(l[4], api.KindResign, 0)
	past := sample.After(end, api.KindOther, 1)
	loose := sample.Said(me, 5, 1)
	face := sample.Said(me, 2, 9)
	late := list(sample.Said(me, 90, 1), sample.Said(me, 90, 2))
	head := headOf(false, l[:2])
	for name, c := range map[string]struct {
		store api.Store
		head  api.Head
	}{
		"a forked head":                     {sample.Store(l), with(head, func(h *api.Head) { h.Forked = true })},
		"a forked head of the same height":  {sample.Store(l), headOf(true, l, late...)},
		"a fork in the store":               {sample.Store(l, list(face)), head},
		"a fork before the head's end":      {sample.Store(l, list(sample.Said(me, 0, 9))), head},
		"a fork far behind":                 {sample.Store(l, late), head},
		"a fork far behind, all that count": {sample.Store(l, late), headOf(false, l)},
		"forks on both sides":               {sample.Store(l, late), headOf(true, l[:2], l[2], face)},
		"the height 0":                      {sample.Store(l), headOf(false, nil, l[1:]...)},
		"the height 0, a fork":              {sample.Store(l), headOf(true, nil, l[0], sample.Said(me, 0, 9))},
		"another digest":                    {sample.Store(l), with(head, func(h *api.Head) { h.Digest = strings.Repeat("d", 32) })},
		"the digest of the one before":      {sample.Store(l), with(head, func(h *api.Head) { h.Digest = l[0].Seal.Digest })},
		"the digest of the one behind":      {sample.Store(l), with(head, func(h *api.Head) { h.Digest = l[2].Seal.Digest })},
		"the digest of the last one":        {sample.Store(l), with(head, func(h *api.Head) { h.Digest = l[4].Seal.Digest })},
		"a greater height":                  {sample.Store(l[:3]), headOf(false, l[:4])},
		"a much greater height":             {sample.Store(l[:1]), headOf(false, l)},
		"the greatest height":               {sample.Store(l), with(head, func(h *api.Head) { h.Height = api.MaxChain })},
		"an end behind a gap":               {sample.Store(l[:1], l[2:]), headOf(false, l)},
		"an end where the gap is":           {sample.Store(l[:1], l[2:]), headOf(false, l[:2])},
		"no beginning":                      {sample.Store(l[1:]), head},
		"an end that follows nothing":       {sample.Store(l, list(loose)), headOf(false, together(l, list(loose)), late[0])},
		"an end past a resignation":         {sample.Store(l, list(end, past)), headOf(false, together(l, list(end, past)), late[0])},
		"another row":                       {sample.Store(l), headOf(false, list(sample.Said(me, 0, 9)))},
	} {
		expectMissing(t, name, c.store, heads(c.head), c.store.Statements...)
	}
}

// P7.2: what is missing of several authors is by author, each one by their own head.
func TestMissingOfSeveral(t *testing.T) {
	a, b, c, d, e := sample.Row(1, 4), sample.Row(2, 3), sample.Row(20, 5), sample.Row(40, 2), sample.Row(63, 3)
	face := sample.Said(20, 4, 9)
	s := sample.Store(e, d, c, list(face), b, a)
	l := heads(headOf(false, a[:1]), headOf(false, b), headOf(false, c[:3]), headOf(false, sample.Row(30, 2)), headOf(false, e[:2]))
	want := together(a[1:], sample.Store(c, list(face)).Statements, d, e[2:])
	expectMissing(t, "all kinds of heads", s, l, want...)
	var all []api.Statement
	var short []api.Head
	var rest []api.Statement
	for author := range api.MaxKeys {
		row := sample.Row(author, 3)
		all, short, rest = append(all, row...), append(short, headOf(false, row[:2])), append(rest, row[2])
	}
	expectMissing(t, "all authors", sample.Store(all), short, rest...)
}

// lackingBy is the definition of what is missing of an author, word by word.
func lackingBy(author int, all []api.Statement, l []api.Head) []api.Statement {
	row := chain.Counted(author, all)
	_, forked := chain.Fork(author, all)
	for _, h := range l {
		if h.Author != author {
			continue
		}
		if h.Sum == sumOf(all...) {
			return nil
		}
		counts := h.Height != 0 && slices.ContainsFunc(row, func(s api.Statement) bool {
			return s.Number == h.Height-1 && statement.Digest(s) == h.Digest
		})
		if counts && !h.Forked && !forked {
			return slices.DeleteFunc(slices.Clone(all), func(s api.Statement) bool { return s.Number < h.Height })
		}
	}
	return all
}

// P7.2: all kinds of stores and heads, against the definition; and with the heads of a store, the consequences: whoever adds what is missing has everything that counts in both, with the forks of a merge.
func TestMissingAgainstTheDefinition(t *testing.T) {
	r := rand.New(rand.NewSource(3))
	none, some, most := 0, 0, 0
	for range 400 {
		all := sample.Tree(me, r.Intn)
		a, b := sample.Part(r.Intn, all), sample.Part(r.Intn, all)
		l := Of(b)
		var want []api.Statement
		for author := range api.MaxKeys {
			of := store.Of(a, author)
			lacks := lackingBy(author, of, l)
			want = append(want, lacks...)
			switch {
			case len(lacks) > 0 && len(lacks) < len(of):
				some++
			case len(lacks) > 0:
				most++
			case len(of) > 0:
				none++
			}
		}
		expectMissing(t, "a store", a, l, want...)
		expectAdded(t, a, b, want)
	}
	if none < 100 || some < 100 || most < 100 {
		t.Errorf("the stores show too little: nothing is missing of %d authors, something of %d, everything of %d", none, some, most)
	}
}

// expectAdded asserts the consequences of adding what b lacks of a.
func expectAdded(t *testing.T, a, b api.Store, missing []api.Statement) {
	t.Helper()
	s := sample.Store(b.Statements, missing)
	both, _ := store.Merge(a, b)
	for _, x := range together(store.Counted(a), store.Counted(b), store.Counted(both)) {
		if !isIn(x, s.Statements) {
			t.Errorf("of %s and %s, %s counts and is not there", sample.Brief(a.Statements), sample.Brief(b.Statements), sample.Brief(list(x)))
		}
	}
	if got, want := fork.Find(s), fork.Find(both); !slices.EqualFunc(got, want, func(x, y api.Fork) bool {
		return statement.Same(x.First, y.First) && statement.Same(x.Second, y.Second)
	}) {
		t.Errorf("of %s and %s, there are %d forks, in the merge %d", sample.Brief(a.Statements), sample.Brief(b.Statements), len(got), len(want))
	}
}

// anyHead is a head of an author that need not be that of a store, but often is like one.
func anyHead(r *rand.Rand, author int, all []api.Statement) api.Head {
	h := with(whole(author), func(h *api.Head) { h.Height, h.Forked = 1+r.Intn(5), r.Intn(4) == 0 })
	if len(all) == 0 {
		return h
	}
	s := all[r.Intn(len(all))]
	h.Digest = s.Seal.Digest
	switch r.Intn(6) {
	case 0:
		h.Height, h.Digest = 0, ""
	case 1:
		h.Sum = sumOf(all...)
	case 2, 3, 4:
		h.Height = s.Number + 1
	}
	return h
}

// P7.2: heads that no store has, against the definition.
func TestMissingForAnyHeads(t *testing.T) {
	r := rand.New(rand.NewSource(4))
	for range 400 {
		s := sample.Part(r.Intn, sample.Tree(me, r.Intn))
		var l []api.Head
		var want []api.Statement
		for author := range api.MaxKeys {
			of := store.Of(s, author)
			if r.Intn(5) > 0 {
				l = append(l, anyHead(r, author, of))
			}
			want = append(want, lackingBy(author, of, l)...)
		}
		expectMissing(t, "any heads", s, l, want...)
	}
}

// P7.2: the store and the heads have to be valid, whatever the other one is like.
func TestMissingErrors(t *testing.T) {
	s := sample.Store(sample.Row(me, 4))
	expect := func(name string, s api.Store, l []api.Head) {
		t.Helper()
		memory, given := slices.Clone(s.Statements), slices.Clone(l)
		if got, err := Missing(s, l); err != api.ErrForm || len(got) > 0 {
			t.Errorf("%s: there lacks %s, error %d", name, sample.Brief(got), err)
		}
		if !isList(s.Statements, memory) || !isHeads(l, given) {
			t.Errorf("%s: an argument has changed", name)
		}
	}
	for name, wrong := range sample.WildStores() {
		expect(name, wrong, nil)
		expect(name, wrong, heads(headOf(false, sample.Row(me, 2))))
		expect(name, wrong, Of(wrong))
		expect(name, wrong, heads(whole(-1)))
	}
	for name, wrong := range faulty() {
		expect(name, s, heads(wrong))
		expect(name, api.Store{}, heads(whole(1), wrong, whole(20)))
		expect(name, s, heads(headOf(false, sample.Row(me, 4)), wrong))
	}
	expect("heads that fall", s, heads(whole(3), whole(2)))
	expect("an author twice", s, heads(whole(me), whole(me)))
}
