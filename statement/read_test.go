package statement

import (
	"bytes"
	"math"
	"math/rand"
	"slices"
	"strings"
	"testing"

	"trustflow/api"
)

// mustEncode is Encode of a statement that is well formed and sealed.
func mustEncode(t *testing.T, s api.Statement) []byte {
	t.Helper()
	b, err := Encode(s)
	if err != api.OK {
		t.Fatalf("Encode of %v: error %d", s, err)
	}
	return b
}

// wantNone asserts that b are no statement's bytes.
func wantNone(t *testing.T, name string, b []byte) {
	t.Helper()
	s, err := Decode(b)
	if err != api.ErrForm || !equal(s, api.Statement{}) {
		t.Errorf("%s: %v, error %d", name, s, err)
	}
}

// P3.3: the body bytes, and the seal behind them.
func TestEncode(t *testing.T) {
	for i, s := range good() {
		s.Seal = api.Seal{Key: s.Author, Digest: bodyDigest(s)}
		before := cloned(s)
		want := slices.Concat(bodyBytes(s), number(nil, s.Author), number(nil, 32), []byte(bodyDigest(s)))
		if got := mustEncode(t, s); !bytes.Equal(got, want) {
			t.Errorf("statement %d: % x, want % x", i, got, want)
		}
		if !equal(s, before) {
			t.Errorf("statement %d has changed", i)
		}
	}
}

// P3.3: the errors of Check, each of which comes before ErrSeal.
func TestEncodeOfNoStatement(t *testing.T) {
	for _, f := range faults() {
		s := other()
		f.make(&s)
		for _, c := range []api.Statement{s, Seal(s)} {
			if b, err := Encode(c); err != f.want || len(b) != 0 {
				t.Errorf("%s: % x, error %d, want %d", f.name, b, err, f.want)
			}
		}
	}
	for i, s := range wild() {
		if b, err := Encode(s); err != Check(s) || len(b) != 0 {
			t.Errorf("statement %d: % x, error %d, want %d", i, b, err, Check(s))
		}
	}
}

// P3.3: ErrSeal.
func TestEncodeWithoutSeal(t *testing.T) {
	for i, s := range good() {
		right := Seal(s).Seal
		for _, seal := range []api.Seal{{}, {Key: right.Key}, {Key: right.Key + 1, Digest: right.Digest}, {Key: right.Key, Digest: filled(1)}, {Key: right.Key, Digest: right.Digest[1:]}} {
			s.Seal = seal
			if b, err := Encode(s); err != api.ErrSeal || len(b) != 0 {
				t.Errorf("statement %d with the seal %v: % x, error %d", i, seal, b, err)
			}
		}
	}
}

// P3.3, Consequences: Decode of Encode is the statement.
func TestDecode(t *testing.T) {
	for i, s := range good() {
		sealed := Seal(s)
		got, err := Decode(mustEncode(t, sealed))
		if err != api.OK || !equal(got, sealed) || !Same(got, sealed) {
			t.Errorf("statement %d: %v, error %d, want %v", i, got, err, sealed)
		}
		if !bytes.Equal(mustEncode(t, got), mustEncode(t, sealed)) {
			t.Errorf("statement %d has other bytes when it has been read", i)
		}
	}
}

// P3.3: every byte too few.
func TestDecodeTooFewBytes(t *testing.T) {
	wantNone(t, "nil", nil)
	wantNone(t, "no bytes", []byte{})
	for _, s := range good() {
		b := mustEncode(t, Seal(s))
		for n := range b {
			wantNone(t, "too few bytes", b[:n])
		}
		for n := 1; n < len(b); n += 7 {
			wantNone(t, "without the first bytes", b[n:])
		}
	}
}

// P3.3: bytes behind the statement, be they zeros, or another one.
func TestDecodeTooManyBytes(t *testing.T) {
	for _, s := range good() {
		b := mustEncode(t, Seal(s))
		for _, more := range [][]byte{{0}, {255}, make([]byte, 8), b, b[:1]} {
			wantNone(t, "too many bytes", slices.Concat(b, more))
			wantNone(t, "bytes before", slices.Concat(more, b[:len(b)-1]))
		}
	}
}

// P3.3: any other byte is one of another statement, whose seal is not right.
func TestDecodeOfChangedBytes(t *testing.T) {
	for _, s := range []api.Statement{vouch(), revoke(), other(), least()} {
		b := mustEncode(t, Seal(s))
		for i := range b {
			for _, x := range []byte{1, 128, 255} {
				changed := bytes.Clone(b)
				changed[i] ^= x
				wantNone(t, "a changed byte", changed)
			}
		}
	}
}

// P3.3: statements that are sealed, but not well formed.
func TestDecodeOfNoStatement(t *testing.T) {
	for _, f := range faults() {
		s := other()
		f.make(&s)
		wantNone(t, f.name, allBytes(Seal(s)))
	}
	for _, s := range wild() {
		wantNone(t, "a wild statement", allBytes(Seal(s)))
	}
	for _, c := range []change{
		{"the own key", func(s *api.Statement) { s.A = s.Author }},
		{"the level", func(s *api.Statement) { s.B = 4 }},
		{"the end", func(s *api.Statement) { s.C = s.Time - 1 }},
		{"a list", func(s *api.Statement) { s.List = []int{1} }},
		{"a pin", func(s *api.Statement) { s.Pins = pinsOf(1) }},
		{"a body", func(s *api.Statement) { s.Body = "b" }},
		{"a Prev", func(s *api.Statement) { s.Prev = filled(3) }},
		{"no Prev", func(s *api.Statement) { s.Number = 1 }},
	} {
		s := vouch()
		c.make(&s)
		wantNone(t, c.name, allBytes(Seal(s)))
	}
}

// P3.3: statements that are well formed, but whose seal is not right.
func TestDecodeWithoutSeal(t *testing.T) {
	for _, s := range good() {
		right := Seal(s).Seal
		for _, seal := range []api.Seal{
			{},
			{Key: right.Key},
			{Key: right.Key + 1, Digest: right.Digest},
			{Key: -1, Digest: right.Digest},
			{Key: right.Key, Digest: filled(0)},
			{Key: right.Key, Digest: right.Digest[:31]},
			{Key: right.Key, Digest: right.Digest + "\x00"},
			{Key: right.Key, Digest: Digest(vouchFor(60))},
		} {
			s.Seal = seal
			wantNone(t, "a seal that is not right", allBytes(s))
		}
		wantNone(t, "no seal at all", bodyBytes(s))
	}
}

// places are where the lengths and numbers of elements stand in the bytes of other: of Prev, List, Pins, the first pin's digest, Body and the seal's digest.
func places() []int {
	s := other()
	list := 16 + 8 + 32 + 40
	pins := list + 8 + 8*len(s.List)
	body := pins + 8 + 56*len(s.Pins)
	return []int{16, list, pins, pins + 24, body, body + 8 + len(s.Body) + 8}
}

// P3.3, P1: lengths that are out of their ranges, and those that announce what is not there, however great.
func TestDecodeOfWrongLengths(t *testing.T) {
	b := mustEncode(t, Seal(other()))
	right := []int{32, 3, 2, 32, len(other().Body), 32}
	for i, at := range places() {
		if got := number(nil, right[i]); !bytes.Equal(b[at:at+8], got) {
			t.Fatalf("there is no length at %d", at)
		}
		for _, n := range []int{-1, -8, math.MinInt, 0, 1, 31, 33, 64, 65, 4096, 4097, 1 << 20, 1 << 32, 1 << 40, 1<<60 + 1, 1 << 61, math.MaxInt} {
			if n == right[i] {
				continue
			}
			wantNone(t, "a wrong length", slices.Concat(b[:at], number(nil, n), b[at+8:]))
			wantNone(t, "a wrong length at the end", slices.Concat(b[:at], number(nil, n)))
		}
	}
}

// P3.3: one more than is permitted of each, though all of it is there, and the seal is right.
func TestDecodeOfTooMuch(t *testing.T) {
	for _, c := range []change{
		{"Prev", func(s *api.Statement) { s.Prev += "x" }},
		{"List", func(s *api.Statement) { s.List = make([]int, 65) }},
		{"Pins", func(s *api.Statement) { s.Pins = pinsOf(65) }},
		{"a pin's digest", func(s *api.Statement) { s.Pins[0].Digest += "x" }},
		{"Body", func(s *api.Statement) { s.Body = strings.Repeat("b", 4097) }},
		{"many pins", func(s *api.Statement) { s.Pins = pinsOf(5000) }},
		{"a long body", func(s *api.Statement) { s.Body = strings.Repeat("b", 1<<20) }},
	} {
		s := other()
		c.make(&s)
		wantNone(t, c.name, allBytes(Seal(s)))
	}
}

// R4: the bytes are not changed, and what was read does not change with them.
func TestDecodeLeavesItsArgument(t *testing.T) {
	s := Seal(other())
	b := mustEncode(t, s)
	before := bytes.Clone(b)
	got, err := Decode(b)
	if !bytes.Equal(b, before) {
		t.Error("the bytes have changed")
	}
	clear(b)
	if err != api.OK || !equal(got, s) {
		t.Errorf("what was read has changed: %v", got)
	}
}

// P3.3: nothing is taken from the memory behind the bytes.
func TestDecodeNothingFromBehind(t *testing.T) {
	b := mustEncode(t, Seal(other()))
	wantNone(t, "bytes in the memory behind", b[:len(b)-1])
	got, err := Decode(slices.Concat(b, []byte("more"))[:len(b)])
	if err != api.OK || !equal(got, Seal(other())) {
		t.Errorf("%v, error %d", got, err)
	}
}

// P1: any bytes. The random numbers are the same in each run.
func TestDecodeOfAnyBytes(t *testing.T) {
	r := rand.New(rand.NewSource(3))
	for range 3000 {
		b := make([]byte, r.Intn(400))
		for i := range b {
			if r.Intn(3) == 0 {
				b[i] = byte(r.Intn(256))
			}
		}
		wantNone(t, "random bytes", b)
	}
}

// Consequences: statements of random fields, of each kind, are what was encoded.
func TestDecodeOfRandomStatements(t *testing.T) {
	r := rand.New(rand.NewSource(4))
	for range 500 {
		s := api.Statement{Author: r.Intn(64), Time: r.Intn(1<<31 + 1), Kind: 10 + r.Intn(22), A: r.Intn(1<<40 + 1), B: r.Intn(9), C: r.Intn(1 << 20)}
		if r.Intn(2) == 0 {
			s.Number, s.Prev = 1+r.Intn(199), filled(byte(r.Intn(256)))
		}
		for range r.Intn(65) {
			s.List = append(s.List, r.Intn(1<<40+1))
		}
		s.Pins = pinsOf(r.Intn(65))
		s.Body = strings.Repeat("\x00x", r.Intn(2049))
		got, err := Decode(mustEncode(t, Seal(s)))
		if err != api.OK || !equal(got, Seal(s)) {
			t.Fatalf("%v, error %d, want %v", got, err, s)
		}
	}
}

// R1: no state is kept between calls.
func TestNothingIsKept(t *testing.T) {
	b := mustEncode(t, Seal(other()))
	first, _ := Decode(b)
	wantNone(t, "too few bytes", b[:len(b)-1])
	Decode(mustEncode(t, Seal(full())))
	again, err := Decode(b)
	if err != api.OK || !equal(first, Seal(other())) || !equal(again, first) {
		t.Error("what was read has changed")
	}
}
