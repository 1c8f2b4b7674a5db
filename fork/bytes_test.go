package fork

import (
	"bytes"
	"encoding/binary"
	"math"
	"math/rand"
	"slices"
	"testing"

	"trustflow/api"
	"trustflow/sample"
	"trustflow/statement"
)

// lengthOf is a number as chapter 2 writes it, by the library.
func lengthOf(n int) []byte { return binary.BigEndian.AppendUint64(nil, uint64(n)) }

// texts are parts, each behind its length.
func texts(parts ...[]byte) []byte {
	var all []byte
	for _, p := range parts {
		all = slices.Concat(all, lengthOf(len(p)), p)
	}
	return all
}

// bytesOf are the bytes of a statement that is well formed and sealed.
func bytesOf(t *testing.T, s api.Statement) []byte {
	t.Helper()
	b, err := statement.Encode(s)
	if err != api.OK {
		t.Fatalf("the statement %s has no bytes: error %d", sample.Brief(list(s)), err)
	}
	return b
}

// expectDecode asserts what Decode returns, and that the bytes stay as they were.
func expectDecode(t *testing.T, name string, b []byte, want api.Fork, err api.Errno) {
	t.Helper()
	before := bytes.Clone(b)
	got, e := Decode(b)
	if e != err || !isFork(got, want) {
		t.Errorf("%s: %s and error %d, want %s and %d", name, briefForks([]api.Fork{got}), e, briefForks([]api.Fork{want}), err)
	}
	if !bytes.Equal(b, before) {
		t.Errorf("%s: the bytes have changed", name)
	}
}

// expectNone asserts that bytes are those of no evidence.
func expectNone(t *testing.T, name string, b []byte) {
	t.Helper()
	expectDecode(t, name, b, api.Fork{}, api.ErrForm)
}

// P6.3: the bytes of evidence are those of both statements, each as Text; and what is decoded from them is the evidence.
func TestEncode(t *testing.T) {
	for name, f := range evidence() {
		want := texts(bytesOf(t, f.First), bytesOf(t, f.Second))
		got, err := Encode(f)
		if err != api.OK || !bytes.Equal(got, want) {
			t.Errorf("%s: error %d and the bytes %x, want %x", name, err, got, want)
		}
		expectDecode(t, name, want, f, api.OK)
		// With room behind them, in which other bytes stand.
		room := slices.Concat(want, []byte("other bytes"))
		expectDecode(t, name+", with room", room[:len(want)], f, api.OK)
	}
}

// P6.3: what is decoded stays the same, whatever is done with the bytes later.
func TestDecodeKeepsNothing(t *testing.T) {
	f := fullest()
	b, _ := Encode(f)
	got, _ := Decode(b)
	clear(b)
	if !isFork(got, f) {
		t.Error("what was decoded has changed with the bytes")
	}
}

// P6.3: ErrForm of bytes that are no two texts, or of more than these.
func TestDecodeOfOtherBytes(t *testing.T) {
	f := pair()
	a, b := bytesOf(t, f.First), bytesOf(t, f.Second)
	whole := texts(a, b)
	for n := range whole {
		expectNone(t, "too few bytes", whole[:n])
		expectNone(t, "a beginning is missing", whole[len(whole)-n:])
	}
	for _, more := range [][]byte{{0}, {1, 2, 3}, lengthOf(0), texts(a), whole} {
		expectNone(t, "more bytes behind", slices.Concat(whole, more))
		expectNone(t, "more bytes before", slices.Concat(more, whole))
		expectNone(t, "more bytes within the first text", texts(slices.Concat(a, more), b))
		expectNone(t, "more bytes within the second text", texts(a, slices.Concat(b, more)))
		expectNone(t, "more bytes between both", slices.Concat(texts(a), more, texts(b)))
	}
	expectNone(t, "nil", nil)
	expectNone(t, "empty", []byte{})
	expectNone(t, "without lengths", slices.Concat(a, b))
	expectNone(t, "one of both", texts(a))
	expectNone(t, "an empty text", texts(a, nil))
	expectNone(t, "an empty text first", texts(nil, b))
	expectNone(t, "two empty texts", texts(nil, nil))
	expectNone(t, "both in one text", texts(slices.Concat(a, b)))
	expectNone(t, "a text of it", texts(whole))
	expectNone(t, "three texts", texts(a, b, b))
}

// P6.3: ErrForm of lengths that are not those of the texts.
func TestDecodeOfOtherLengths(t *testing.T) {
	f := pair()
	a, b := bytesOf(t, f.First), bytesOf(t, f.Second)
	for _, n := range []int{0, 1, -1, 8, math.MinInt, math.MaxInt, 1 << 31, 1 << 40, len(a) - 1, len(a) + 1, -len(a), 2 * len(a), len(a) + len(b), len(a) + len(b) + 8} {
		expectNone(t, "another length of the first one", slices.Concat(lengthOf(n), a, texts(b)))
		expectNone(t, "another length of the second one", slices.Concat(texts(a), lengthOf(n), b))
		expectNone(t, "other lengths of both", slices.Concat(lengthOf(n), a, lengthOf(n), b))
	}
}

// P6.3: ErrForm of two statements that are no evidence.
func TestDecodeOfNoEvidence(t *testing.T) {
	f := pair()
	a, b := bytesOf(t, f.First), bytesOf(t, f.Second)
	expectNone(t, "turned", texts(b, a))
	expectNone(t, "the first one twice", texts(a, a))
	expectNone(t, "the second one twice", texts(b, b))
	for value := range 20 {
		for _, s := range list(sample.Said(me+1, 3, value), sample.Said(me-1, 3, value), sample.Said(me, 2, value), sample.Said(me, 4, value)) {
			other := two(f.First, s)
			expectNone(t, "not two faces", texts(bytesOf(t, other.First), bytesOf(t, other.Second)))
		}
	}
}

// withSeal are the bytes of a statement, be it well formed and sealed or not.
func withSeal(s api.Statement) []byte {
	return slices.Concat(statement.Bytes(s), lengthOf(s.Seal.Key), texts([]byte(s.Seal.Digest)))
}

// P6.3: ErrForm of statements that are not well formed, or not sealed.
func TestDecodeOfBadStatements(t *testing.T) {
	f := pair()
	a, b := bytesOf(t, f.First), bytesOf(t, f.Second)
	if !bytes.Equal(withSeal(f.First), a) {
		t.Fatal("the bytes of a statement are not as these tests write them")
	}
	for name, wrong := range unsealed(f.First) {
		expectNone(t, "the first one: "+name, texts(withSeal(wrong), b))
	}
	for name, wrong := range unsealed(f.Second) {
		expectNone(t, "the second one: "+name, texts(a, withSeal(wrong)))
	}
	for _, w := range wrongs() {
		first, second := changed(f.First, w.change), changed(f.Second, w.change)
		expectNone(t, "the first one is not well formed", texts(withSeal(first), b))
		expectNone(t, "the second one is not well formed", texts(a, withSeal(second)))
		both := two(first, second)
		expectNone(t, "both are not well formed", texts(withSeal(both.First), withSeal(both.Second)))
	}
}

// P6.3: with any byte changed there is no evidence.
func TestDecodeOfChangedBytes(t *testing.T) {
	for _, name := range []string{"two values", "one vouches"} {
		b, _ := Encode(evidence()[name])
		for i := range b {
			for _, flip := range []byte{1, 0x80, 0xff} {
				wrong := bytes.Clone(b)
				wrong[i] ^= flip
				expectNone(t, name, wrong)
			}
		}
	}
}

// P1, P6.3: of any bytes that are decoded Encode makes the same again.
func TestDecodeOfAnyBytes(t *testing.T) {
	r := rand.New(rand.NewSource(4))
	b, _ := Encode(pair())
	decoded := 0
	for range 3000 {
		odd := bytes.Clone(b)
		for range r.Intn(3) {
			i := r.Intn(len(odd) + 1)
			switch r.Intn(4) {
			case 0:
				odd = odd[:i]
			case 1:
				odd = slices.Insert(odd, i, byte(r.Intn(256)))
			case 2:
				odd = slices.Delete(odd, i, min(len(odd), i+r.Intn(9)))
			case 3:
				odd = append(odd[i:], odd[:i]...)
			}
		}
		f, err := Decode(odd)
		if err == api.OK {
			decoded++
			if again, e := Encode(f); e != api.OK || !bytes.Equal(again, odd) {
				t.Errorf("of %x there is evidence with the bytes %x, error %d", odd, again, e)
			}
		} else if err != api.ErrForm || !isFork(f, api.Fork{}) {
			t.Errorf("of %x there is %s, error %d", odd, briefForks([]api.Fork{f}), err)
		}
	}
	if decoded < 300 || decoded > 2900 {
		t.Errorf("%d of the bytes were evidence", decoded)
	}
}
