package statement

import (
	"bytes"
	"crypto/sha256"
	"encoding/binary"
	"math"
	"slices"
	"strings"
	"testing"

	"trustflow/api"
)

// filled is a string of 32 bytes.
func filled(b byte) string { return strings.Repeat(string([]byte{b}), 32) }

// pinsOf is so many pins, of the authors from 0 on.
func pinsOf(n int) []api.Pin {
	var pins []api.Pin
	for i := range n {
		pins = append(pins, api.Pin{Author: i, Height: i + 1, Digest: filled(byte(i))})
	}
	return pins
}

// vouch is the chapter's example.
func vouch() api.Statement {
	return api.Statement{Author: 2, Time: 7, Kind: api.KindVouch, A: 5, B: 1, C: 100}
}

// revoke is a well formed revocation that is not the first statement.
func revoke() api.Statement {
	return api.Statement{Author: 2, Number: 3, Prev: filled('p'), Time: 8, Kind: api.KindRevoke, A: 1}
}

// resign is a well formed resignation.
func resign() api.Statement {
	return api.Statement{Author: 63, Number: 199, Prev: filled(0), Time: 9, Kind: api.KindResign}
}

// other is a well formed statement in which no field is empty.
func other() api.Statement {
	return api.Statement{
		Author: 4, Number: 1, Prev: filled('q'), Time: 12, Kind: 13, A: 6, B: 7, C: 8,
		List: []int{3, 0, 5}, Pins: []api.Pin{{Author: 1, Height: 2, Digest: filled('x')}, {Author: 9, Height: 1, Digest: filled('y')}},
		Body: "some\x00bytes\xff",
	}
}

// full is a well formed statement with as much as is permitted, in every field.
func full() api.Statement {
	s := api.Statement{
		Author: api.MaxKeys - 1, Number: api.MaxChain - 1, Prev: filled(255), Time: api.MaxTime, Kind: api.MaxKind,
		A: api.MaxValue, B: api.MaxValue, C: api.MaxValue, Pins: pinsOf(api.MaxPins), Body: strings.Repeat("b", api.MaxBody),
	}
	for i := range api.MaxList {
		s.List = append(s.List, api.MaxValue-i)
	}
	s.Pins[api.MaxPins-1].Height = api.MaxChain
	return s
}

// least is a well formed statement with the least of everything.
func least() api.Statement { return api.Statement{Kind: api.KindOther} }

// good are well formed statements.
func good() []api.Statement {
	return []api.Statement{vouch(), revoke(), resign(), other(), full(), least()}
}

// wild are statements that are not well formed, with any numbers, lists and texts.
func wild() []api.Statement {
	return []api.Statement{
		{},
		{Author: -1, Number: math.MinInt, Prev: "x", Time: math.MaxInt, Kind: -7, A: -1, B: -2, C: math.MinInt, Body: "\x00"},
		{Author: 1 << 40, Number: 1 << 41, Prev: strings.Repeat("p", 100), Kind: 99, List: []int{-1, math.MaxInt, math.MinInt}},
		{List: make([]int, 300), Pins: append(pinsOf(70), api.Pin{Author: -1, Height: -2}), Body: strings.Repeat("z", 5000)},
		{Kind: api.KindVouch, List: []int{1}, Pins: pinsOf(1), Body: "b", Seal: api.Seal{Key: -4, Digest: "d"}},
	}
}

// change is one thing that is made different.
type change struct {
	name string
	make func(*api.Statement)
}

// differences are changes of other, each of one field, in each way in which the field can differ.
func differences() []change {
	return []change{
		{"Author", func(s *api.Statement) { s.Author++ }},
		{"Number", func(s *api.Statement) { s.Number++ }},
		{"Prev", func(s *api.Statement) { s.Prev = filled('r') }},
		{"a shorter Prev", func(s *api.Statement) { s.Prev = s.Prev[1:] }},
		{"no Prev", func(s *api.Statement) { s.Prev = "" }},
		{"Time", func(s *api.Statement) { s.Time++ }},
		{"Kind", func(s *api.Statement) { s.Kind++ }},
		{"A", func(s *api.Statement) { s.A++ }},
		{"B", func(s *api.Statement) { s.B = -s.B }},
		{"C", func(s *api.Statement) { s.C += 1 << 40 }},
		{"an element", func(s *api.Statement) { s.List = []int{3, 0, 6} }},
		{"the order of List", func(s *api.Statement) { s.List = []int{0, 3, 5} }},
		{"a shorter List", func(s *api.Statement) { s.List = s.List[:2] }},
		{"a longer List", func(s *api.Statement) { s.List = append(slices.Clone(s.List), 0) }},
		{"no List", func(s *api.Statement) { s.List = nil }},
		{"a pin's author", func(s *api.Statement) { s.Pins = slices.Clone(s.Pins); s.Pins[1].Author++ }},
		{"a pin's height", func(s *api.Statement) { s.Pins = slices.Clone(s.Pins); s.Pins[0].Height++ }},
		{"a pin's digest", func(s *api.Statement) { s.Pins = slices.Clone(s.Pins); s.Pins[1].Digest = filled('z') }},
		{"the order of Pins", func(s *api.Statement) { s.Pins = []api.Pin{s.Pins[1], s.Pins[0]} }},
		{"fewer Pins", func(s *api.Statement) { s.Pins = s.Pins[:1] }},
		{"more Pins", func(s *api.Statement) { s.Pins = append(slices.Clone(s.Pins), api.Pin{}) }},
		{"no Pins", func(s *api.Statement) { s.Pins = nil }},
		{"Body", func(s *api.Statement) { s.Body = "some\x01bytes\xff" }},
		{"a longer Body", func(s *api.Statement) { s.Body += "\x00" }},
		{"no Body", func(s *api.Statement) { s.Body = "" }},
	}
}

// number is a number as chapter 2 writes it, by the library's encoding.
func number(b []byte, v int) []byte { return binary.BigEndian.AppendUint64(b, uint64(v)) }

// text is a string as chapter 2 writes it.
func text(b []byte, s string) []byte { return append(number(b, len(s)), s...) }

// bodyBytes are the body bytes as the chapter defines them.
func bodyBytes(s api.Statement) []byte {
	b := text(number(number(nil, s.Author), s.Number), s.Prev)
	for _, v := range []int{s.Time, s.Kind, s.A, s.B, s.C, len(s.List)} {
		b = number(b, v)
	}
	for _, v := range s.List {
		b = number(b, v)
	}
	b = number(b, len(s.Pins))
	for _, p := range s.Pins {
		b = text(number(number(b, p.Author), p.Height), p.Digest)
	}
	return text(b, s.Body)
}

// bodyDigest is the digest as the chapter defines it, by the library's SHA-256.
func bodyDigest(s api.Statement) string {
	d := sha256.Sum256(bodyBytes(s))
	return string(d[:])
}

// allBytes are the bytes of a statement with its seal, whatever it says.
func allBytes(s api.Statement) []byte {
	return text(number(bodyBytes(s), s.Seal.Key), s.Seal.Digest)
}

// equal compares all fields, apart from the functions that are tested.
func equal(a, b api.Statement) bool {
	return bytes.Equal(allBytes(a), allBytes(b))
}

// cloned is a statement with memory of its own.
func cloned(s api.Statement) api.Statement {
	s.List, s.Pins = slices.Clone(s.List), slices.Clone(s.Pins)
	return s
}

// P3.2: the body bytes, written out.
func TestBytesOfTheExample(t *testing.T) {
	zeros := func(n int) []byte { return make([]byte, n) }
	want := slices.Concat(
		zeros(7), []byte{2}, zeros(8), zeros(8), zeros(7), []byte{7}, zeros(7), []byte{1},
		zeros(7), []byte{5}, zeros(7), []byte{1}, zeros(7), []byte{100}, zeros(8), zeros(8), zeros(8))
	if got := Bytes(vouch()); !bytes.Equal(got, want) {
		t.Errorf("% x, want % x", got, want)
	}
	s := api.Statement{Prev: "pr", List: []int{-1}, Pins: []api.Pin{{Author: 3, Height: 4, Digest: "d"}}, Body: "xyz"}
	want = slices.Concat(
		zeros(16), zeros(7), []byte{2, 'p', 'r'}, zeros(40),
		zeros(7), []byte{1}, bytes.Repeat([]byte{255}, 8),
		zeros(7), []byte{1}, zeros(7), []byte{3}, zeros(7), []byte{4}, zeros(7), []byte{1, 'd'},
		zeros(7), []byte{3, 'x', 'y', 'z'})
	if got := Bytes(s); !bytes.Equal(got, want) {
		t.Errorf("% x, want % x", got, want)
	}
}

// P3.2: the body bytes, the digest and the seal of all statements, also of those that are not well formed.
func TestBytesDigestAndSeal(t *testing.T) {
	for i, s := range append(good(), wild()...) {
		before := cloned(s)
		if got, want := Bytes(s), bodyBytes(s); !bytes.Equal(got, want) {
			t.Errorf("statement %d: the bytes are % x, want % x", i, got, want)
		}
		if got, want := Digest(s), bodyDigest(s); got != want {
			t.Errorf("statement %d: the digest is %x, want %x", i, got, want)
		}
		want := cloned(s)
		want.Seal = api.Seal{Key: s.Author, Digest: bodyDigest(s)}
		if got := Seal(s); !equal(got, want) {
			t.Errorf("statement %d: sealed it is %v, want %v", i, got, want)
		}
		if !equal(s, before) {
			t.Errorf("statement %d has changed: %v, it was %v", i, s, before)
		}
	}
}

// P3.2: the seal is no part of the bytes, so a seal that is there changes nothing.
func TestSealIsNoPartOfTheBytes(t *testing.T) {
	for i, s := range good() {
		sealed := s
		sealed.Seal = api.Seal{Key: 17, Digest: "another seal"}
		if !bytes.Equal(Bytes(s), Bytes(sealed)) || Digest(s) != Digest(sealed) {
			t.Errorf("statement %d: the bytes change with the seal", i)
		}
		if !equal(Seal(s), Seal(sealed)) || !equal(Seal(Seal(s)), Seal(s)) {
			t.Errorf("statement %d: the right seal changes with that before", i)
		}
	}
}

// Consequences: statements with different fields have different bytes, and so different digests.
func TestDifferentFieldsDifferentBytes(t *testing.T) {
	seen := map[string]string{string(Bytes(other())): "nothing"}
	digests := map[string]string{Digest(other()): "nothing"}
	for _, c := range differences() {
		s := other()
		c.make(&s)
		if before, ok := seen[string(Bytes(s))]; ok {
			t.Errorf("%s and %s: the same bytes", c.name, before)
		}
		if before, ok := digests[Digest(s)]; ok {
			t.Errorf("%s and %s: the same digest", c.name, before)
		}
		seen[string(Bytes(s))], digests[Digest(s)] = c.name, c.name
	}
}

// P3.2, R3: an empty list and nil have the same bytes, and are the same.
func TestEmptyAndNil(t *testing.T) {
	a, b := vouch(), vouch()
	b.List, b.Pins = []int{}, []api.Pin{}
	if !bytes.Equal(Bytes(a), Bytes(b)) || Digest(a) != Digest(b) {
		t.Error("empty lists have other bytes than nil")
	}
	if !Same(a, b) || !Same(b, a) || !Same(b, b) {
		t.Error("empty lists and nil are not the same")
	}
	if Check(b) != api.OK || !Sealed(Seal(b)) {
		t.Error("empty lists are not well formed, or cannot be sealed")
	}
	first, err := Encode(Seal(a))
	second, err2 := Encode(Seal(b))
	if err != api.OK || err2 != api.OK || !bytes.Equal(first, second) {
		t.Error("empty lists are encoded unlike nil")
	}
}

// P1, P3.2: very long lists take no longer than their bytes.
func TestBytesOfManyPins(t *testing.T) {
	s := api.Statement{List: make([]int, 200000), Pins: make([]api.Pin, 200000), Body: strings.Repeat("x", 1<<20)}
	for i := range s.Pins {
		s.Pins[i] = api.Pin{Author: i, Height: -i, Digest: "digest"}
	}
	if !bytes.Equal(Bytes(s), bodyBytes(s)) {
		t.Error("the bytes are not those of the statement")
	}
}

// R4: what is returned shares no memory that a later call would change.
func TestBytesAreNew(t *testing.T) {
	s := Seal(other())
	first, encoded := Bytes(s), mustEncode(t, s)
	clear(Bytes(s))
	clear(mustEncode(t, s))
	if !bytes.Equal(first, bodyBytes(s)) || !bytes.Equal(encoded, allBytes(s)) {
		t.Error("what was returned has changed")
	}
}

// P3.1: a seal is right with the author's key and the digest of the statement, also if it is not well formed.
func TestSealed(t *testing.T) {
	for i, s := range append(good(), wild()...) {
		s.Seal = api.Seal{Key: s.Author, Digest: bodyDigest(s)}
		if !Sealed(s) {
			t.Errorf("statement %d: the right seal is not right", i)
		}
		if !Sealed(Seal(s)) {
			t.Errorf("statement %d: what Seal returns is not sealed", i)
		}
	}
}

// P3.1: each way in which a seal is not right.
func TestNotSealed(t *testing.T) {
	for i, s := range append(good(), wild()...) {
		right := api.Seal{Key: s.Author, Digest: bodyDigest(s)}
		last := []byte(right.Digest)
		last[31] ^= 1
		for _, seal := range []api.Seal{
			{},
			{Key: right.Key},
			{Key: right.Key + 1, Digest: right.Digest},
			{Key: right.Key - 1, Digest: right.Digest},
			{Key: -right.Key - 1, Digest: right.Digest},
			{Key: right.Key, Digest: string(last)},
			{Key: right.Key, Digest: right.Digest[:31]},
			{Key: right.Key, Digest: right.Digest + "\x00"},
			{Key: right.Key, Digest: filled(0)},
			{Key: right.Key, Digest: bodyDigest(vouchFor(60))},
		} {
			s.Seal = seal
			if Sealed(s) {
				t.Errorf("statement %d: the seal %v is right", i, seal)
			}
		}
	}
}

// vouchFor is a vouch for a key, unlike all the other statements.
func vouchFor(key int) api.Statement {
	s := vouch()
	s.A = key
	return s
}

// P3.1: a seal is no longer right when any field has changed, nor is it that of another statement.
func TestSealOfAnotherStatement(t *testing.T) {
	for _, c := range differences() {
		s := Seal(other())
		c.make(&s)
		if Sealed(s) {
			t.Errorf("%s: it is still sealed", c.name)
		}
	}
	// The digest binds the author, but the key has to be compared as well.
	s := other()
	s.Author++
	s.Seal = api.Seal{Key: s.Author - 1, Digest: bodyDigest(s)}
	if Sealed(s) {
		t.Error("another key's seal is right")
	}
}

// P3.2: Same is true of equal fields, however they lie in memory.
func TestSame(t *testing.T) {
	for i, s := range append(good(), wild()...) {
		for _, a := range []api.Statement{s, Seal(s)} {
			if !Same(a, a) || !Same(a, cloned(a)) || !Same(cloned(a), a) {
				t.Errorf("statement %d is not the same as itself", i)
			}
		}
	}
	all := append(good(), wild()...)
	for i, a := range all {
		for j, b := range all {
			if Same(a, b) != (i == j) {
				t.Errorf("statements %d and %d: %v", i, j, Same(a, b))
			}
		}
	}
}

// P3.2: Same is false if one field differs, be it the seal.
func TestNotSame(t *testing.T) {
	seals := []change{
		{"the seal's key", func(s *api.Statement) { s.Seal.Key++ }},
		{"the seal's digest", func(s *api.Statement) { s.Seal.Digest = filled('n') }},
		{"no seal", func(s *api.Statement) { s.Seal = api.Seal{} }},
	}
	for _, c := range append(differences(), seals...) {
		a, b := Seal(other()), Seal(other())
		c.make(&b)
		if Same(a, b) || Same(b, a) {
			t.Errorf("%s: they are the same", c.name)
		}
	}
}
