package fork

import (
	"math"
	"slices"
	"strings"
	"testing"

	"trustflow/api"
	"trustflow/sample"
	"trustflow/statement"
)

// expectCheck asserts what Check says of a fork; that Encode has the same error, and then no bytes; and that nobody has changed it.
func expectCheck(t *testing.T, name string, f api.Fork, want api.Errno) {
	t.Helper()
	before := f
	if got := Check(f); got != want {
		t.Errorf("%s: error %d, want %d", name, got, want)
	}
	if b, got := Encode(f); got != want || (len(b) > 0) != (want == api.OK) {
		t.Errorf("%s: %d bytes and error %d, want error %d", name, len(b), got, want)
	}
	if !isFork(f, before) {
		t.Errorf("%s: the fork has changed", name)
	}
}

// pair is evidence.
func pair() api.Fork { return two(sample.Said(me, 3, 1), sample.Said(me, 3, 2)) }

// fullest is evidence with as much in it as is permitted.
func fullest() api.Fork {
	var pins []api.Pin
	for author := range api.MaxPins {
		pins = append(pins, api.Pin{Author: author, Height: api.MaxChain, Digest: strings.Repeat("\xff", 32)})
	}
	fill := func(s *api.Statement) {
		s.Time, s.Kind, s.B, s.C = api.MaxTime, api.MaxKind, api.MaxValue, api.MaxValue
		s.List = slices.Repeat([]int{api.MaxValue}, api.MaxList)
		s.Pins, s.Body = pins, strings.Repeat("\x80", api.MaxBody)
	}
	last := api.MaxKeys - 1
	return two(changed(sample.Said(last, 199, 1), fill), changed(sample.Said(last, 199, 2), fill))
}

// evidence are pairs of statements that prove a fork.
func evidence() map[string]api.Fork {
	a := sample.Said(me, 3, 1)
	with := func(change func(*api.Statement)) api.Fork { return two(a, changed(a, change)) }
	vouch := statement.Seal(api.Statement{Time: 7, Kind: api.KindVouch, A: 1, B: 1, C: 9})
	return map[string]api.Fork{
		"two values":             pair(),
		"two first ones":         two(sample.Said(0, 0, 1), sample.Said(0, 0, 2)),
		"two last ones":          two(sample.Said(63, 199, 1), sample.Said(63, 199, 2)),
		"two times":              with(func(s *api.Statement) { s.Time = 0 }),
		"two kinds":              with(func(s *api.Statement) { s.Kind = api.MaxKind }),
		"two Prevs":              with(func(s *api.Statement) { s.Prev = strings.Repeat("q", 32) }),
		"two bodies":             with(func(s *api.Statement) { s.Body = "\x00" }),
		"one resigns":            with(func(s *api.Statement) { s.Kind, s.A = api.KindResign, 0 }),
		"both vouch":             two(vouch, changed(vouch, func(s *api.Statement) { s.A = 2 })),
		"one vouches":            two(vouch, sample.Said(0, 0, 1)),
		"both with all they can": fullest(),
		"one with all it can":    two(fullest().First, sample.Said(63, 199, 1)),
	}
}

// P6.2: evidence, and the same the other way round, which is none.
func TestCheck(t *testing.T) {
	for name, f := range evidence() {
		expectCheck(t, name, f, api.OK)
		expectCheck(t, name+", turned", turned(f), api.ErrEvidence)
	}
	for value := range 50 {
		f := two(sample.Said(me, 0, value), sample.Said(me, 0, value+1))
		expectCheck(t, "any two", f, api.OK)
		expectCheck(t, "any two, turned", turned(f), api.ErrEvidence)
	}
}

// P6.2, R8: digests are compared as unsigned numbers.
func TestCheckComparesUnsigned(t *testing.T) {
	var low, high []api.Statement
	for value := range 40 {
		if s := sample.Said(me, 0, value); s.Seal.Digest[0] < 0x80 {
			low = append(low, s)
		} else {
			high = append(high, s)
		}
	}
	if len(low) < 5 || len(high) < 5 {
		t.Fatal("the statements show too little")
	}
	for i := range 5 {
		expectCheck(t, "a low byte first", api.Fork{First: low[i], Second: high[i]}, api.OK)
		expectCheck(t, "a high byte first", api.Fork{First: high[i], Second: low[i]}, api.ErrEvidence)
	}
}

// P6.2: ErrEvidence, if two sealed statements are not two faces of one author.
func TestCheckErrEvidence(t *testing.T) {
	a := sample.Said(me, 3, 1)
	empty := a
	empty.List, empty.Pins = []int{}, []api.Pin{}
	expectCheck(t, "a statement twice", api.Fork{First: a, Second: a}, api.ErrEvidence)
	expectCheck(t, "a statement, and with empty lists", api.Fork{First: a, Second: empty}, api.ErrEvidence)
	// Of many, so that neither author nor number is found only by the digests.
	for value := range 20 {
		expectCheck(t, "two authors", two(a, sample.Said(me+1, 3, value)), api.ErrEvidence)
		expectCheck(t, "two authors", two(a, sample.Said(me-1, 3, value)), api.ErrEvidence)
		expectCheck(t, "two numbers", two(a, sample.Said(me, 4, value)), api.ErrEvidence)
		expectCheck(t, "two numbers", two(a, sample.Said(me, 2, value)), api.ErrEvidence)
		expectCheck(t, "two authors and numbers", two(a, sample.Said(me+1, 4, value)), api.ErrEvidence)
	}
	l := sample.Row(me, 2)
	expectCheck(t, "one behind the other", api.Fork{First: l[0], Second: l[1]}, api.ErrEvidence)
	expectCheck(t, "one behind the other", api.Fork{First: l[1], Second: l[0]}, api.ErrEvidence)
}

// wrongs are changes after which a statement is not well formed, in the order of the errors of statement.Check.
func wrongs() []struct {
	err    api.Errno
	change func(*api.Statement)
} {
	return []struct {
		err    api.Errno
		change func(*api.Statement)
	}{
		{api.ErrKey, func(s *api.Statement) { s.Author = api.MaxKeys }},
		{api.ErrKind, func(s *api.Statement) { s.Kind = 9 }},
		{api.ErrTime, func(s *api.Statement) { s.Time = -1 }},
		{api.ErrRange, func(s *api.Statement) { s.Number = api.MaxChain }},
		{api.ErrRange, func(s *api.Statement) { s.C = math.MinInt }},
		{api.ErrLimit, func(s *api.Statement) { s.Body = strings.Repeat("b", api.MaxBody+1) }},
		{api.ErrForm, func(s *api.Statement) { s.Prev = "" }},
		{api.ErrForm, func(s *api.Statement) { s.Pins = []api.Pin{{Author: 1}} }},
	}
}

// unsealed are a statement's copies with seals that are not right.
func unsealed(s api.Statement) map[string]api.Statement {
	none, key, digest, old, long := s, s, s, s, s
	none.Seal = api.Seal{}
	key.Seal.Key++
	digest.Seal.Digest = strings.Repeat("\x00", 32)
	old.B++
	long.Seal.Digest += "\x00"
	return map[string]api.Statement{"no seal": none, "another key's seal": key, "another digest": digest, "the seal of another one": old, "a seal that is too long": long}
}

// P6.2: the errors of statement.Check, of the first one before those of the second one, whatever these are, and before all others.
func TestCheckOfBadStatements(t *testing.T) {
	f := pair()
	for _, w := range wrongs() {
		// Both of the same, so that the authors and numbers would fit.
		first, second := changed(f.First, w.change), changed(f.Second, w.change)
		expectCheck(t, "the first one", api.Fork{First: first, Second: f.Second}, w.err)
		expectCheck(t, "the second one", api.Fork{First: f.First, Second: second}, w.err)
		expectCheck(t, "both", api.Fork{First: first, Second: second}, w.err)
		expectCheck(t, "both, turned", api.Fork{First: second, Second: first}, w.err)
		for _, v := range wrongs() {
			expectCheck(t, "both, with two errors", api.Fork{First: first, Second: changed(f.Second, v.change)}, w.err)
		}
		for name, other := range unsealed(f.Second) {
			expectCheck(t, "the first one, and "+name, api.Fork{First: first, Second: other}, w.err)
			expectCheck(t, "the second one, and "+name, api.Fork{First: other, Second: second}, w.err)
		}
		first.Seal, second.Seal = api.Seal{}, api.Seal{}
		expectCheck(t, "the first one, without a seal", api.Fork{First: first, Second: f.Second}, w.err)
		expectCheck(t, "the second one, without a seal", api.Fork{First: f.First, Second: second}, w.err)
		expectCheck(t, "one twice", api.Fork{First: first, Second: first}, w.err)
	}
	expectCheck(t, "zero", api.Fork{}, api.ErrKind)
	expectCheck(t, "half of it", api.Fork{First: f.First}, api.ErrKind)
	expectCheck(t, "the other half", api.Fork{Second: f.Second}, api.ErrKind)
}

// P6.2: ErrSeal, if one of both is not sealed, before ErrEvidence.
func TestCheckErrSeal(t *testing.T) {
	f := pair()
	for name, wrong := range unsealed(f.First) {
		expectCheck(t, "the first one: "+name, api.Fork{First: wrong, Second: f.Second}, api.ErrSeal)
		expectCheck(t, "turned: "+name, api.Fork{First: f.Second, Second: wrong}, api.ErrSeal)
		expectCheck(t, "twice: "+name, api.Fork{First: wrong, Second: wrong}, api.ErrSeal)
		expectCheck(t, "another author's: "+name, api.Fork{First: wrong, Second: sample.Said(me+1, 3, 1)}, api.ErrSeal)
		expectCheck(t, "another number: "+name, api.Fork{First: sample.Said(me, 4, 1), Second: wrong}, api.ErrSeal)
	}
	for name, wrong := range unsealed(f.Second) {
		expectCheck(t, "the second one: "+name, api.Fork{First: f.First, Second: wrong}, api.ErrSeal)
		for other, first := range unsealed(f.First) {
			expectCheck(t, "both: "+other+", "+name, api.Fork{First: first, Second: wrong}, api.ErrSeal)
		}
	}
	exchanged := f
	exchanged.First.Seal, exchanged.Second.Seal = f.Second.Seal, f.First.Seal
	expectCheck(t, "exchanged seals", exchanged, api.ErrSeal)
}
