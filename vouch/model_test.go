package vouch

import (
	"cmp"
	"math"
	"math/rand"
	"slices"
	"testing"

	"trustflow/api"
	"trustflow/epoch"
	"trustflow/sample"
	"trustflow/store"
)

// modelRevoked is the time of the first later revocation of a vouch, -1 without one.
func modelRevoked(l []api.Statement, vouch api.Statement) int {
	for number := vouch.Number + 1; number <= api.MaxChain; number++ {
		for _, s := range l {
			if s.Author == vouch.Author && s.Number == number && s.Kind == api.KindRevoke && s.A == vouch.Number {
				return s.Time
			}
		}
	}
	return -1
}

// modelOf is the vouches of a list, put in their order one by one.
func modelOf(l []api.Statement) []api.Vouch {
	var out []api.Vouch
	for _, s := range l {
		if s.Kind == api.KindVouch {
			out = append(out, api.Vouch{From: s.Author, To: s.A, Level: s.B, Number: s.Number, Time: s.Time, End: s.C, Revoked: modelRevoked(l, s)})
		}
	}
	slices.SortFunc(out, func(a, b api.Vouch) int { return cmp.Compare(a.Number, b.Number) })
	slices.SortStableFunc(out, func(a, b api.Vouch) int { return cmp.Compare(a.To, b.To) })
	slices.SortStableFunc(out, func(a, b api.Vouch) int { return cmp.Compare(a.From, b.From) })
	return out
}

// modelLeft reports whether a key has resigned at a time.
func modelLeft(l []api.Statement, key, time int) bool {
	return slices.ContainsFunc(l, func(s api.Statement) bool { return s.Author == key && s.Kind == api.KindResign && s.Time <= time })
}

// modelGone is who has resigned at a time, key after key.
func modelGone(l []api.Statement, keys []int, time int) []int {
	return slices.DeleteFunc(slices.Clone(keys), func(key int) bool { return !modelLeft(l, key, time) })
}

// modelActive is what of the vouches of a list fulfils each condition of the chapter.
func modelActive(l []api.Statement, time int) []api.Vouch {
	all := modelOf(l)
	return slices.DeleteFunc(slices.Clone(all), func(v api.Vouch) bool {
		again := slices.ContainsFunc(all, func(w api.Vouch) bool {
			return w.Number > v.Number && w.From == v.From && w.To == v.To && w.Time <= time
		})
		began, over := v.Time <= time, time >= v.End
		revoked := v.Revoked != -1 && v.Revoked <= time
		return !began || over || revoked || again || modelLeft(l, v.From, time) || modelLeft(l, v.To, time)
	})
}

// ascending returns the numbers from 0 to n - 1.
func ascending(n int) []int {
	var out []int
	for i := range n {
		out = append(out, i)
	}
	return out
}

// expectModel asserts what all functions return of a list at a time, and for each pair of keys.
func expectModel(t *testing.T, l []api.Statement, keys []int, time int) {
	t.Helper()
	active := modelActive(l, time)
	expectOf(t, l, modelOf(l))
	expectGone(t, l, time, modelGone(l, keys, time))
	expectActive(t, l, time, active)
	for _, from := range keys {
		for _, to := range keys {
			fit := slices.DeleteFunc(slices.Clone(active), func(v api.Vouch) bool { return v.From != from || v.To != to })
			if len(fit) > 1 {
				t.Fatalf("%v hold between two keys", fit)
			}
			want := append(fit, api.Vouch{})[0]
			expectBetween(t, l, from, to, time, want, len(fit) == 1)
		}
	}
}

// P10.1, P10.2: all functions, of what counts of random authors and at all times, against their definitions.
func TestAgainstTheDefinitions(t *testing.T) {
	r := rand.New(rand.NewSource(1))
	for range 60 {
		l := sample.Lives(2+r.Intn(4), r.Intn)
		for time := -1; time < epoch.Latest(l)+11; time++ {
			expectModel(t, l, ascending(6), time)
		}
		for _, time := range far {
			expectModel(t, l, ascending(6), time)
		}
	}
}

// anyRows are statements by author and number that need not be well formed or sealed: with keys, levels, times and ends of any kind, and with gaps.
func anyRows(r *rand.Rand, keys []int) []api.Statement {
	number := func() int {
		if r.Intn(20) == 0 {
			return far[r.Intn(len(far))]
		}
		return r.Intn(7) - 1
	}
	kinds := []int{api.KindVouch, api.KindVouch, api.KindVouch, api.KindRevoke, api.KindResign, api.KindOther, 0, -1}
	var l []api.Statement
	for _, author := range keys {
		for i := range 8 {
			if r.Intn(3) == 0 {
				continue
			}
			l = append(l, api.Statement{Author: author, Number: i, Time: number(), Kind: kinds[r.Intn(len(kinds))], A: r.Intn(8), B: number(), C: number()})
			if s := &l[len(l)-1]; s.Kind == api.KindVouch {
				s.A = keys[r.Intn(len(keys))]
			}
		}
	}
	return l
}

// P10.1, P10.2: also of keys, times and levels that no statement has, the definitions alone decide.
func TestNumbersThatAreNone(t *testing.T) {
	r := rand.New(rand.NewSource(2))
	keys := []int{math.MinInt, -1, 0, 7, 64, math.MaxInt}
	for range 100 {
		l := anyRows(r, keys)
		for _, time := range append([]int{2, 3, 4, 5}, far...) {
			expectModel(t, l, keys, time)
		}
	}
}

// P1: all functions come to an end, whatever the list is, also one that is in no order and has everything twice.
func TestAnyList(t *testing.T) {
	r := rand.New(rand.NewSource(3))
	for range 200 {
		l := anyRows(r, []int{math.MinInt, -1, 0, 7, math.MaxInt})
		l = append(l, l...)
		r.Shuffle(len(l), func(i, k int) { l[i], l[k] = l[k], l[i] })
		time := far[r.Intn(len(far))]
		expectKept(t, l, func(l []api.Statement) {
			all, active, gone := Of(l), Active(l, time), Gone(l, time)
			if len(active) > len(all) || !slices.IsSorted(gone) {
				t.Errorf("%v hold and %v are gone in %s", active, gone, sample.Deeds(l))
			}
			Between(l, 0, 7, time)
		})
	}
}

// unrevoked returns vouches as they are for somebody who does not know of revocations later than a time.
func unrevoked(l []api.Vouch, time int) []api.Vouch {
	l = slices.Clone(l)
	for i := range l {
		if l[i].Revoked > time {
			l[i].Revoked = -1
		}
	}
	return l
}

// Consequences: what is active at a time is the same without all that was said later; only the revocations to come are not known.
func TestLaterStatements(t *testing.T) {
	r := rand.New(rand.NewSource(4))
	less := 0
	for range 100 {
		l := sample.Lives(5, r.Intn)
		for time := range epoch.Latest(l) + 2 {
			known := epoch.Until(l, time)
			for before := range time + 1 {
				expectActive(t, known, before, unrevoked(Active(l, before), time))
				expectGone(t, known, before, Gone(l, before))
			}
			if len(Of(known)) < len(Of(l)) && len(Active(known, time)) > 0 {
				less++
			}
		}
	}
	if less < 300 {
		t.Errorf("only %d times there was something later", less)
	}
}

// Consequences: a vouch holds from its time on without a break, at most to its end; at most one holds between two keys.
func TestOnceOver(t *testing.T) {
	r := rand.New(rand.NewSource(5))
	held := 0
	for range 100 {
		l := sample.Lives(5, r.Intn)
		over := map[name]bool{}
		var before []api.Vouch
		for time := -1; time < epoch.Latest(l)+11; time++ {
			pairs := map[[2]int]bool{}
			active := Active(l, time)
			for _, v := range active {
				if p := [2]int{v.From, v.To}; pairs[p] || over[name{v.From, v.Number}] || v.Time > time || v.End <= time {
					t.Errorf("%v holds at %d in %s", v, time, sample.Deeds(l))
				} else {
					pairs[p] = true
				}
			}
			for _, v := range before {
				if !slices.Contains(active, v) {
					over[name{v.From, v.Number}] = true
				}
			}
			before = active
		}
		if len(before) > 0 {
			t.Errorf("%v hold for ever", before)
		}
		held += len(over)
	}
	if held < 300 {
		t.Errorf("only %d vouches ever held", held)
	}
}

// Consequences: what was pinned has the same vouches, whatever is added to the store: here other faces of every author.
func TestPinned(t *testing.T) {
	r := rand.New(rand.NewSource(6))
	for range 50 {
		l := sample.Lives(5, r.Intn)
		s := sample.Store(l)
		pins := store.Pins(s)
		s = sample.Faces(s, 5)
		pinned, err := store.Pinned(s, pins)
		if err != api.OK || len(store.Counted(s)) > 10 {
			t.Fatalf("the error is %d, and of %d authors something counts", err, len(store.Counted(s)))
		}
		expectOf(t, pinned, modelOf(l))
		for time := range 20 {
			expectGone(t, pinned, time, modelGone(l, ascending(5), time))
			expectActive(t, pinned, time, modelActive(l, time))
		}
	}
}

// A chain of the greatest length, in which one key is vouched for again and again, of all authors.
func TestLongChains(t *testing.T) {
	var l []api.Statement
	for author := range api.MaxKeys {
		for number := range api.MaxChain {
			l = append(l, api.Statement{Author: author, Number: number, Time: number, Kind: api.KindVouch, A: (author + 1) % api.MaxKeys, B: 1, C: api.MaxTime})
		}
	}
	for _, time := range []int{0, 1, 100, api.MaxChain - 1, api.MaxChain} {
		active := Active(l, time)
		if len(active) != api.MaxKeys {
			t.Fatalf("at %d %d vouches hold", time, len(active))
		}
		for i, v := range active {
			if v.From != i || v.Number != min(time, api.MaxChain-1) {
				t.Errorf("at %d %v holds", time, v)
			}
		}
	}
}
