package vector

import (
	"math/rand"
	"slices"
	"strconv"
	"strings"
	"testing"

	"trustflow/api"
	"trustflow/chain"
	"trustflow/sample"
	"trustflow/store"
)

// P7.1: without statements there are no heads; a row without faults counts up to its end.
func TestHeadsOfRows(t *testing.T) {
	expectHeads(t, "nil", api.Store{})
	expectHeads(t, "empty", api.Store{Statements: list()})
	for _, n := range []int{1, 2, 3, 10, 199, 200} {
		expectHeads(t, "a row", sample.Store(sample.Row(me, n)), headOf(false, sample.Row(me, n)))
	}
	for _, author := range []int{0, 1, 62, 63} {
		expectHeads(t, "a row of an author", sample.Store(sample.Row(author, 3)), headOf(false, sample.Row(author, 3)))
	}
}

// P7.1: what does not count is not in the height and the digest of a head, but it is in the sum.
func TestHeadsOfWhatDoesNotCount(t *testing.T) {
	l := sample.Row(me, 6)
	end := sample.After(l[2], api.KindResign, 0)
	past := sample.After(end, api.KindOther, 1)
	loose := sample.Said(me, 3, 1)
	for name, want := range map[string]struct {
		head    api.Head
		counted []api.Statement
		others  []api.Statement
	}{
		"a gap":                           {counted: l[:2], others: l[3:]},
		"no beginning":                    {others: l[1:]},
		"only the greatest number":        {others: list(sample.Said(me, api.MaxChain-1, 1))},
		"a statement that follows none":   {counted: l[:3], others: list(loose)},
		"a resignation":                   {counted: together(l[:3], list(end))},
		"a statement past a resignation":  {counted: together(l[:3], list(end)), others: list(past)},
		"nothing but a resignation there": {others: list(end)},
	} {
		expectHeads(t, name, sample.Store(want.counted, want.others), headOf(false, want.counted, want.others...))
	}
}

// P7.1: a fork is in the head, wherever it is, and what stands before it counts.
func TestHeadsOfForks(t *testing.T) {
	l := sample.Row(me, 6)
	for i := range l {
		others := together(l[i:], list(sample.Said(me, i, 99)))
		expectHeads(t, "another face", sample.Store(l, others), headOf(true, l[:i], others...))
	}
	far := list(sample.Said(me, 50, 1), sample.Said(me, 50, 2))
	expectHeads(t, "a fork behind a gap", sample.Store(l, far), headOf(true, l, far...))
	expectHeads(t, "nothing but a fork", sample.Store(far), headOf(true, nil, far...))
	end := sample.After(l[5], api.KindResign, 0)
	past := list(sample.After(end, api.KindOther, 1), sample.After(end, api.KindOther, 2))
	expectHeads(t, "a fork past a resignation", sample.Store(l, list(end), past), headOf(true, together(l, list(end)), past...))
	var faces []api.Statement
	for i := range api.MaxStatements {
		faces = append(faces, sample.Said(me, 1, i))
	}
	expectHeads(t, "as many faces as a store has", sample.Store(faces), headOf(true, nil, faces...))
}

// P7.1: the heads of several authors are ascending, one for each of whom there is a statement.
func TestHeadsOfSeveral(t *testing.T) {
	var all []api.Statement
	var want []api.Head
	for author := range api.MaxKeys {
		row := sample.Row(author, 1+author%4)
		all, want = append(all, row...), append(want, headOf(false, row))
	}
	expectHeads(t, "all authors", sample.Store(all), want...)
	a, b, c, d := sample.Row(2, 3), sample.Row(30, 4), sample.Row(40, 2), sample.Row(63, 2)
	face := sample.Said(40, 1, 7)
	s := sample.Store(d, c, list(face), b[1:], a)
	expectHeads(t, "some authors", s, headOf(false, a), headOf(false, nil, b[1:]...), headOf(true, c[:1], c[1], face), headOf(false, d))
}

// definedHead is the head of an author by the definition, from all that a store has of them.
func definedHead(author int, s api.Store) (api.Head, bool) {
	all := store.Of(s, author)
	if len(all) == 0 {
		return api.Head{}, false
	}
	_, forked := chain.Fork(author, all)
	counted := chain.Counted(author, all)
	others := slices.DeleteFunc(all, func(s api.Statement) bool { return isIn(s, counted) })
	return headOf(forked, counted, others...), true
}

// P7.1: all kinds of stores, against the definition.
func TestHeadsAgainstTheDefinition(t *testing.T) {
	r := rand.New(rand.NewSource(1))
	forked, zero := 0, 0
	for range 300 {
		s := sample.Part(r.Intn, sample.Tree(me, r.Intn))
		var want []api.Head
		for author := range api.MaxKeys {
			if h, ok := definedHead(author, s); ok {
				want = append(want, h)
			}
		}
		expectHeads(t, "a store", s, want...)
		for _, h := range want {
			if h.Forked {
				forked++
			}
			if h.Height == 0 {
				zero++
			}
		}
	}
	if forked < 100 || zero < 100 {
		t.Errorf("the stores show too little: %d heads are forked, %d of height 0", forked, zero)
	}
}

// whole is a head without faults.
func whole(author int) api.Head {
	return api.Head{Author: author, Height: 3, Digest: strings.Repeat("d", 32), Sum: strings.Repeat("s", 32)}
}

// faultless are heads that are valid, though no store need have them.
func faultless() map[string]api.Head {
	return map[string]api.Head{
		"a head":             whole(me),
		"the least key":      whole(0),
		"the greatest key":   whole(api.MaxKeys - 1),
		"a fork":             with(whole(me), func(h *api.Head) { h.Forked = true }),
		"the least height":   with(whole(me), func(h *api.Head) { h.Height, h.Digest = 0, "" }),
		"no height, a fork":  with(whole(me), func(h *api.Head) { h.Height, h.Digest, h.Forked = 0, "", true }),
		"the height 1":       with(whole(me), func(h *api.Head) { h.Height = 1 }),
		"the greatest":       with(whole(me), func(h *api.Head) { h.Height = api.MaxChain }),
		"any bytes":          with(whole(me), func(h *api.Head) { h.Digest, h.Sum = strings.Repeat("\x00", 32), strings.Repeat("\xff", 32) }),
		"bytes of runes":     with(whole(me), func(h *api.Head) { h.Digest, h.Sum = strings.Repeat("é", 16), strings.Repeat("é", 16) }),
		"digest that is sum": with(whole(me), func(h *api.Head) { h.Digest = h.Sum }),
	}
}

// faulty are heads that are not valid, each for one reason.
func faulty() map[string]api.Head {
	all := map[string]api.Head{
		"the zero head":          {},
		"height 0 with a digest": with(whole(me), func(h *api.Head) { h.Height = 0 }),
		"no digest":              with(whole(me), func(h *api.Head) { h.Digest = "" }),
		"no digest, a fork":      with(whole(me), func(h *api.Head) { h.Digest, h.Forked = "", true }),
		"height 1, no digest":    with(whole(me), func(h *api.Head) { h.Height, h.Digest = 1, "" }),
		"a height too great":     with(whole(me), func(h *api.Head) { h.Height = api.MaxChain + 1 }),
		"a negative height":      with(whole(me), func(h *api.Head) { h.Height = -1 }),
		"-1 without a digest":    with(whole(me), func(h *api.Head) { h.Height, h.Digest = -1, "" }),
		"no sum":                 with(whole(me), func(h *api.Head) { h.Sum = "" }),
		"height 0, no sum":       with(whole(me), func(h *api.Head) { h.Height, h.Digest, h.Sum = 0, "", "" }),
		"runes":                  with(whole(me), func(h *api.Head) { h.Sum = strings.Repeat("é", 32) }),
	}
	for _, size := range []int{1, 31, 33, 64} {
		bytes := strings.Repeat("x", size)
		all["a digest of another size"+bytes] = with(whole(me), func(h *api.Head) { h.Digest = bytes })
		all["a sum of another size"+bytes] = with(whole(me), func(h *api.Head) { h.Sum = bytes })
		all["height 0, another size"+bytes] = with(whole(me), func(h *api.Head) { h.Height, h.Digest = 0, bytes })
	}
	for _, key := range outside {
		all["the key "+strconv.Itoa(key)] = whole(key)
	}
	for _, height := range outside[2:] {
		all["the height "+strconv.Itoa(height)] = with(whole(me), func(h *api.Head) { h.Height = height })
	}
	return all
}

// P7.1: Valid looks at each field of a head, and at each head of a list.
func TestValid(t *testing.T) {
	if !Valid(nil) || !Valid(heads()) {
		t.Error("no heads are valid")
	}
	for name, h := range faultless() {
		if !Valid(heads(h)) {
			t.Errorf("%s: it is valid", name)
		}
	}
	for name, h := range faulty() {
		for i, l := range [][]api.Head{heads(h), heads(h, whole(20)), heads(whole(1), h), heads(whole(1), h, whole(20))} {
			before := slices.Clone(l)
			if Valid(l) {
				t.Errorf("%s: it is not valid in the list %d", name, i)
			}
			if !isHeads(l, before) {
				t.Errorf("%s: the list has changed", name)
			}
		}
	}
}

// P7.1: the authors of valid heads ascend strictly, and there are not more than there are keys.
func TestValidOrder(t *testing.T) {
	var all []api.Head
	for author := range api.MaxKeys {
		all = append(all, whole(author))
	}
	for _, l := range [][]api.Head{all, all[1:], all[:63], heads(whole(0), whole(63)), heads(whole(3), whole(4), whole(9))} {
		if !Valid(l) {
			t.Errorf("%s: they ascend", briefHeads(l))
		}
	}
	for _, l := range [][]api.Head{
		heads(whole(3), whole(3)), heads(whole(0), whole(0)), heads(whole(4), whole(3)), heads(whole(63), whole(0)),
		heads(whole(1), whole(3), whole(2)), heads(whole(2), whole(1), whole(3)), heads(whole(1), whole(2), whole(2)),
		heads(whole(1), whole(9), whole(1)), heads(whole(3), with(whole(3), func(h *api.Head) { h.Forked = true })),
		append(slices.Clone(all), whole(63)), append(slices.Clone(all), whole(64)), append(heads(whole(-1)), all...),
	} {
		if Valid(l) {
			t.Errorf("%s: they do not ascend", briefHeads(l))
		}
	}
}

// P7.1: Same compares each field of each head, whether the heads are valid or not.
func TestSame(t *testing.T) {
	if !Same(nil, nil) || !Same(nil, heads()) || !Same(heads(), nil) || !Same(heads(), heads()) {
		t.Error("no heads are the same as no heads")
	}
	a, b, c := whole(1), whole(2), with(whole(3), func(h *api.Head) { h.Forked = true })
	copied := func(h api.Head) api.Head {
		return with(h, func(h *api.Head) { h.Digest, h.Sum = strings.Clone(h.Digest), strings.Clone(h.Sum) })
	}
	full := heads(a, b, c)
	if !Same(full, full) || !Same(full, heads(copied(a), copied(b), copied(c))) || !Same(heads(api.Head{}), heads(api.Head{})) {
		t.Error("equal lists are the same")
	}
	for name, change := range map[string]func(*api.Head){
		"Author":           func(h *api.Head) { h.Author = 50 },
		"Height":           func(h *api.Head) { h.Height++ },
		"Digest":           func(h *api.Head) { h.Digest = strings.Repeat("d", 31) + "e" },
		"a shorter Digest": func(h *api.Head) { h.Digest = h.Digest[:31] },
		"Forked":           func(h *api.Head) { h.Forked = !h.Forked },
		"Sum":              func(h *api.Head) { h.Sum = "t" + h.Sum[1:] },
		"no Sum":           func(h *api.Head) { h.Sum = "" },
	} {
		for i := range full {
			other := slices.Clone(full)
			other[i] = with(full[i], change)
			if Same(full, other) || Same(other, full) || !Same(other, other) {
				t.Errorf("head %d with another %s", i, name)
			}
		}
	}
	for _, other := range [][]api.Head{nil, heads(a), heads(a, b), heads(b, c), heads(a, c), heads(a, b, c, c), heads(a, b, c, api.Head{}), heads(a, c, b), heads(c, b, a)} {
		if Same(full, other) || Same(other, full) {
			t.Errorf("%s is not %s", briefHeads(full), briefHeads(other))
		}
	}
	if !isHeads(full, heads(a, b, c)) {
		t.Error("an argument has changed")
	}
}

// P7.1: stores have the same heads if they have the same statements, and only then.
func TestHeadsTellStoresApart(t *testing.T) {
	r := rand.New(rand.NewSource(2))
	same, different := 0, 0
	for range 300 {
		all := sample.Tree(me, r.Intn)[:1+r.Intn(4)]
		a, b := sample.Part(r.Intn, all), sample.Part(r.Intn, all)
		equal := isList(a.Statements, b.Statements)
		if Same(Of(a), Of(b)) != equal {
			t.Errorf("%s and %s have the heads %s and %s", sample.Brief(a.Statements), sample.Brief(b.Statements), briefHeads(Of(a)), briefHeads(Of(b)))
		}
		if equal {
			same++
		} else {
			different++
		}
	}
	if same < 50 || different < 50 {
		t.Errorf("%d pairs are the same, %d are not", same, different)
	}
}

// P1: what is specified for valid stores alone comes to an end for others too, without a panic.
func TestHeadsOfInvalidStores(t *testing.T) {
	for name, s := range sample.WildStores() {
		before := slices.Clone(s.Statements)
		Of(s)
		if !isList(s.Statements, before) {
			t.Errorf("%s: the store has changed", name)
		}
	}
}
