package digest

import (
	"bytes"
	"crypto/sha256"
	"math"
	"strings"
	"testing"
)

// message returns n bytes that are not all alike.
func message(n int) []byte {
	b := make([]byte, n)
	for i := range b {
		b[i] = byte(i*i*31 + i*7 + n)
	}
	return b
}

// expected is a number as P1.2 defines it, by the library's SHA-256.
func expected(seed string, i, n int) int {
	b := []byte(seed)
	for k := 7; k >= 0; k-- {
		b = append(b, byte(uint64(i)>>(8*k)))
	}
	d := sha256.Sum256(b)
	var v uint64
	for _, x := range d[:8] {
		v = v<<8 | uint64(x)
	}
	return int(v % uint64(n))
}

// P1.1: the examples of FIPS 180-4 and of the chapter.
func TestSumOfKnownMessages(t *testing.T) {
	for _, c := range []struct{ text, want string }{
		{"", "e3b0c44298fc1c149afbf4c8996fb92427ae41e4649b934ca495991b7852b855"},
		{"abc", "ba7816bf8f01cfea414140de5dae2223b00361a396177a9cb410ff61f20015ad"},
		{"abcdbcdecdefdefgefghfghighijhijkijkljklmklmnlmnomnopnopq", "248d6a61d20638b8e5c026930c3e6039a33ce45964ff2167f6ecedd419db06c1"},
		{"abcdefghbcdefghicdefghijdefghijkefghijklfghijklmghijklmnhijklmnoijklmnopjklmnopqklmnopqrlmnopqrsmnopqrstnopqrstu", "cf5b16a778af8380036ce59e7b0492370b249b11e8f07a51afac45037afee9d1"},
		{strings.Repeat("a", 1000000), "cdc76e5c9914fb9281a1c7e284d73e67f1809a48a497200e046d39ccc7112cd0"},
	} {
		if got := Hex(Sum([]byte(c.text))); got != c.want {
			t.Errorf("the digest of %d bytes is %s, want %s", len(c.text), got, c.want)
		}
	}
}

// P1.1: every length around the ends of blocks, where the padding takes one block more.
func TestSumOfEachLength(t *testing.T) {
	for n := range 400 {
		b := message(n)
		want := sha256.Sum256(b)
		got := Sum(b)
		if len(got) != 32 {
			t.Fatalf("the digest of %d bytes has %d bytes", n, len(got))
		}
		if got != string(want[:]) {
			t.Errorf("the digest of %d bytes is %x, want %x", n, got, want)
		}
	}
}

// P1.1: the length is that in bits, in more than two bytes.
func TestSumOfLongMessages(t *testing.T) {
	for _, n := range []int{8191, 8192, 8193, 65535, 65536, 1<<21 + 5, 1<<24 + 1} {
		b := message(n)
		want := sha256.Sum256(b)
		if got := Sum(b); got != string(want[:]) {
			t.Errorf("the digest of %d bytes is %x, want %x", n, got, want)
		}
	}
}

// R3: nil and no bytes are the same.
func TestSumOfNothing(t *testing.T) {
	if Sum(nil) != Sum([]byte{}) {
		t.Error("nil and the empty list have different digests")
	}
}

// R4: neither the bytes nor what stands behind them is written to, though the padding would fit there.
func TestSumLeavesItsArgument(t *testing.T) {
	for n := range 130 {
		whole := message(n + 140)
		before := bytes.Clone(whole)
		Sum(whole[:n])
		if !bytes.Equal(whole, before) {
			t.Errorf("the memory of %d bytes has changed", n)
		}
	}
}

// R4: what stands behind the bytes is no part of them.
func TestSumReadsNothingBehind(t *testing.T) {
	for n := range 130 {
		whole := append(message(n), message(140)...)
		if Sum(whole[:n]) != Sum(message(n)) {
			t.Errorf("the digest of %d bytes depends on those behind them", n)
		}
	}
}

// R1: no state is kept between calls.
func TestSumKeepsNothing(t *testing.T) {
	first := Sum([]byte("abc"))
	Sum(message(200))
	Number("abc", 1, 5)
	if Sum([]byte("abc")) != first {
		t.Error("the digest has changed")
	}
}

// P1.1: two digits for each byte of every value, also of those that are no letters.
func TestHex(t *testing.T) {
	const digits = "0123456789abcdef"
	for v := range 256 {
		want := string([]byte{digits[v/16], digits[v%16]})
		if got := Hex(string([]byte{byte(v)})); got != want {
			t.Errorf("the digits of the byte %d are %q, want %q", v, got, want)
		}
	}
	for _, c := range []struct{ text, want string }{
		{"", ""},
		{"\x00", "00"},
		{"\x00\xff\x0a7", "00ff0a37"},
		{"é", "c3a9"},
		{"\xed\xa0\x80", "eda080"},
	} {
		if got := Hex(c.text); got != c.want {
			t.Errorf("the digits of %q are %q, want %q", c.text, got, c.want)
		}
	}
}

// P1.2: all combinations of seeds, indices and bounds, with those at the ends of their ranges.
func TestNumber(t *testing.T) {
	seeds := []string{"", "a", "\x00", "beacon", "\xff\xfe", string(message(47)), string(message(48)), string(message(55)), string(message(56)), string(message(64)), string(message(300))}
	indices := []int{0, 1, 2, 255, 256, 258, 1 << 32, math.MaxInt, -1, -2, -256, math.MinInt}
	bounds := []int{1, 2, 3, 4, 7, 10, 64, 97, 1 << 31, 1 << 40, 1<<62 + 1, math.MaxInt}
	for _, seed := range seeds {
		for _, i := range indices {
			for _, n := range bounds {
				got := Number(seed, i, n)
				if got < 0 || got >= n {
					t.Errorf("the number %d below %d is %d", i, n, got)
				}
				if want := expected(seed, i, n); got != want {
					t.Errorf("the number %d below %d of %q is %d, want %d", i, n, seed, got, want)
				}
			}
		}
	}
}

// P1.2: a digest whose first bit is set is no negative number.
func TestNumberOfAGreatDigest(t *testing.T) {
	great := 0
	for i := range 64 {
		b := append([]byte("sign"), 0, 0, 0, 0, 0, 0, 0, byte(i))
		if d := Sum(b); d[0] < 128 {
			continue
		}
		great++
		if got, want := Number("sign", i, 1000003), expected("sign", i, 1000003); got != want {
			t.Errorf("the number %d is %d, want %d", i, got, want)
		}
	}
	if great == 0 {
		t.Error("no digest had its first bit set")
	}
}

// P1.2: 0 without numbers to choose from.
func TestNumberOfNone(t *testing.T) {
	for _, n := range []int{0, -1, -2, -97, math.MinInt} {
		for i := range 20 {
			if got := Number("x", i, n); got != 0 {
				t.Errorf("the number %d below %d is %d", i, n, got)
			}
		}
	}
}
